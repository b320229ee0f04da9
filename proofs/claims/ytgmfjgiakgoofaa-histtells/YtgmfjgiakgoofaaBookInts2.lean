/-
  Contracts of package lexiphanebook over lists of numbers: still, put.
-/
import Derived.Test.YtgmfjgiakgoofaaBookTexts2
import Derived.Test.YtgmfjgiakgoofaaBookInts1
namespace Go.Proofs.Ytgmfjgiakgoofaa
open Go.ChangeShapes Go.WideShapes Go.ChangeAt Go.RowKit

/-- Lists of texts, each in memory of its own: n of them, the values V, what they read as C; u is the row of them. -/
structure ListsI (w : World) (B : Nat) (u : Value) (n : Nat) (V : Nat → Value) (C : Nat → List Int) : Prop where
  row : w.ownsRow B 22 1 u n ((List.range n).map V)
  each : ∀ j, j < n → w.ownsRow B 3 1 (V j) (C j).length (nats (C j))
  apart : ∀ i j, i < n → j < n → i ≠ j → (V i).ownBlock = none ∨ (V i).ownBlock ≠ (V j).ownBlock

theorem ListsI.below {w w' : World} {B : Nat} {u : Value} {n : Nat} {V : Nat → Value} {C : Nat → List Int} (h : ListsI w B u n V C) (hb : Below w.heap.size w w') : ListsI w' B u n V C :=
  ⟨ownsRow_below h.row hb, fun j hj => ownsRow_below (h.each j hj) hb, h.apart⟩

theorem ListsI.congr {w : World} {B : Nat} {u : Value} {n : Nat} {V : Nat → Value} {C D : Nat → List Int} (h : ListsI w B u n V C) (hc : ∀ j, j < n → C j = D j) : ListsI w B u n V D :=
  ⟨h.row, fun j hj => by rw [← hc j hj]; exact h.each j hj, h.apart⟩

theorem sameInts_over {w0 : World} {v u : Value} {xs ys : List Int} (hv : Reads w0 v (nats xs)) (hu : Reads w0 u (nats ys)) (hx : xs.length ≤ 1000000) (hy : ys.length ≤ 1000000) (w : World) (h0 : Below w0.heap.size w0 w) :
    Calls Try.prog 12 #[v, u] w fun e w' => e = .returned (.bool (decide (xs = ys))) ∧ Below w0.heap.size w0 w' ∧ ∀ p v, w.cell? p = some v → w'.cell? p = some v := by
  refine (sameInts_any (hv.below h0) (hu.below h0) hx hy).mono ?_
  rintro e w' ⟨rfl, hb⟩
  exact ⟨rfl, below_more h0 hb, keeps hb⟩

set_option maxRecDepth 20000 in
set_option maxHeartbeats 2000000 in
theorem stillInts_any {w : World} {p B : Nat} {cs : Array Value} {u u' : Value} {n : Nat} {V V' : Nat → Value} {C : Nat → List Int} (hp : BookAt w p cs) (h2 : cs[0]? = some u) (h3 : cs[1]? = some u') (h : ListsI w B u n V C) (h' : ListsI w B u' n V' C) (hn : n ≤ 250) (hC : ∀ j, j < n → (C j).length ≤ 50000) :
    Calls Try.prog 19 #[.pointer (some ⟨p, 0, none⟩)] w fun e w' => e = .returned (.bool true) ∧ Below w.heap.size w w' := by
  have c2 := hp.cell 0
  have c3 := hp.cell 1
  rw [h2] at c2
  rw [h3] at c3
  have HL := hid h
  have HL' := hid h'
  have HC := hid hC
  obtain ⟨ao, cu, rfl⟩ := ownsRow_slice h.row
  obtain ⟨ao', cu', rfl⟩ := ownsRow_slice h'.row
  clear h h' hC h2 h3 hp
  go_enter Try.func19, Try.ntmps19
  go_wp2
  go_loopw [3] (fun vi wr => ∃ i : Nat, vi = .int .i64 i ∧ i ≤ n ∧ Below w.heap.size w wr) (fun vi _ => n - (intOf vi).toNat)
  case atStart => exact ⟨0, rfl, by omega, Below.refl _ _⟩
  case round =>
    obtain ⟨i, rfl, hi, hbl⟩ := hrel
    have d2 := keeps hbl _ _ c2
    have d3 := keeps hbl _ _ c3
    by_cases hlt : i < n
    · obtain ⟨g, cap, hu, hg1, hg2, hcell⟩ := row_at HL.out.row i hlt
      obtain ⟨g', cap', hu', hg1', hg2', hcell'⟩ := row_at HL'.out.row i hlt
      simp only [Value.slice.injEq, true_and] at hu hu'
      obtain ⟨rfl, rfl⟩ := hu
      obtain ⟨rfl, rfl⟩ := hu'
      have e2 := keeps hbl _ _ hcell
      have e3 := keeps hbl _ _ hcell'
      have r1 := ownsRow_reads (HL.out.each i hlt)
      have r2 := ownsRow_reads (HL'.out.each i hlt)
      have hc1 := HC.out i hlt
      generalize V i = v at hcell e2 r1
      generalize V' i = v' at hcell' e3 r2
      generalize C i = xs at r1 r2 hc1
      clear hcell hcell' c2 c3
      have hbd := hbl.drew
      go_wp2
      go_region_held_law (fun w' => w'.cell? ⟨p, 0, none⟩ = some (.slice (some ⟨g, 0, none⟩) n cu) ∧ w'.cell? ⟨p, 1, none⟩ = some (.slice (some ⟨g', 0, none⟩) n cu') ∧ w'.cell? ⟨g, i, none⟩ = some v ∧ w'.cell? ⟨g', i, none⟩ = some v' ∧ Below w.heap.size w w') (go_keep) (first | (go_at_call 12; refine (sameInts_over r1 r2 (by omega) (by omega) _ (by assumption)).mono ?_; rintro e w2 ⟨rfl, hb2, hk2⟩))
      go_wp2
      go_roundw
      case rel => exact ⟨i + 1, by go_num, by omega, hb2⟩
      case measure => simp [intOf]; omega
    · go_wp2
      go_ret
      exact ⟨rfl, hbl⟩
theorem ListsI.store {w : World} {B : Nat} {u : Value} {n : Nat} {V : Nat → Value} {C : Nat → List Int} (h : ListsI w B u n V C) {i m g cap : Nat} (hi : i < n) (hm : (C i).length = m) (hv : V i = .slice (some ⟨g, 0, none⟩) m cap) (k : Nat) (t : Int) :
    ListsI (w.setCell ⟨g, k, none⟩ (.int .i64 t)) B u n V (fun j => if j = i then (C i).set k t else C j) := by
  have hown := h.each i hi
  rw [hm, hv] at hown
  have hT := turns_store hown rfl k (.int .i64 t)
  refine ⟨hT.row (by decide) h.row, fun j hj => ?_, h.apart⟩
  by_cases e : j = i
  · subst e
    rw [if_pos rfl, List.length_set, hm, hv]
    have := (hown.stored k (.int .i64 t)).1
    have e2 : (nats (C j)).set k (.int .i64 t) = nats ((C j).set k t) := by simp [nats, List.map_set]
    rw [e2] at this
    exact this
  · rw [if_neg e]
    refine ownsRow_same (h.each j hj) (fun g' hg' => ?_)
    apply Below.heap_setCell
    rintro rfl
    rcases h.apart j i hj hi e with ha | ha
    · rw [ha] at hg'; cases hg'
    · exact ha (by rw [hg', hv]; rfl)

theorem ListsI.turned {e : TypeId} {B' : Nat} {w w' : World} {B : Nat} {u : Value} {n : Nat} {V : Nat → Value} {C : Nat → List Int} (h : ListsI w B u n V C) (hT : Turns e B' w w') (h1 : 22 ≠ e) (h2 : 3 ≠ e) : ListsI w' B u n V C :=
  ⟨hT.row h1 h.row, fun j hj => hT.row h2 (h.each j hj), h.apart⟩

theorem marksI_at (i k n j : Nat) (h : j < n) : (marksI i k n)[j]'(by rw [marksI_length]; exact h) = imark i (k + j) := by simp [marksI]

set_option maxRecDepth 20000 in
set_option maxHeartbeats 2000000 in
theorem putInts_any {w : World} {p B : Nat} {cs : Array Value} {u : Value} {n : Nat} {V : Nat → Value} {C : Nat → List Int} (hp : BookAt w p cs) (h2 : cs[0]? = some u) (h : ListsI w B u n V C) (hn : n ≤ 250) (hC : ∀ j, j < n → (C j).length ≤ 50000) :
    Calls Try.prog 24 #[.pointer (some ⟨p, 0, none⟩)] w fun e w' => e = .returned (.tuple #[]) ∧ ListsI w' B u n V (fun j => marksI j 0 (C j).length) ∧ Turns 3 B w w' := by
  obtain ⟨ao, cu, rfl⟩ := ownsRow_slice h.row
  have HP := hid hp
  have HC := hid hC
  have H2 := hid h2
  have HL := hid h
  clear hp hC h2 h
  go_enter Try.func24, Try.ntmps24
  go_wp2
  go_loopw [2] (fun vi wr => ∃ i : Nat, vi = .int .i64 i ∧ i ≤ n ∧ Hid (ListsI wr B (.slice ao n cu) n V (fun j => if j < i then marksI j 0 (C j).length else C j)) ∧ Hid (Turns 3 B w wr)) (fun vi _ => n - (intOf vi).toNat)
  case atStart => exact ⟨0, rfl, by omega, HL.out.congr (fun j _ => by simp), Turns.refl _ _ _⟩
  case round =>
    obtain ⟨i, rfl, hi, hL, hT⟩ := hrel
    have d0 := (hT.out.cell (by decide) HP.out.1)
    have d2 : wr.cell? ⟨p, 0, none⟩ = some (.slice ao n cu) := by rw [← H2.out]; simp [World.cell?, d0]
    clear d0
    by_cases hlt : i < n
    · obtain ⟨g, cap, hu, hg1, hg2, hcell⟩ := row_at hL.out.row i hlt
      simp only [Value.slice.injEq, true_and] at hu
      obtain ⟨rfl, rfl⟩ := hu
      have hown := hL.out.each i hlt
      rw [if_neg (Nat.lt_irrefl i)] at hown
      obtain ⟨av, cv, hv⟩ := ownsRow_slice hown
      have hc1 := HC.out i hlt
      generalize hm : (C i).length = m at hown hc1 hv
      rw [hv] at hcell
      have HO := hid hown
      have HV := hid hv
      clear hown hv
      have hmm : Hid ((C i).length = m) := hm
      clear hm
      go_wp2_with (go_at_call 43; refine (markInts_any i 0 m (by omega) (by omega) (by omega) _).mono ?_; rintro e w1 ⟨vm, rfl, hom, hb1⟩)
      obtain ⟨am, cm, rfl⟩ := ownsRow_slice hom
      have HM := hid hom
      have HB1 := hid hb1
      have d2' := keeps hb1 _ _ d2
      have hcell' := keeps hb1 _ _ hcell
      clear hom hb1 d2 hcell
      go_loopw [4] (fun vk wq => ∃ k : Nat, vk = .int .i64 k ∧ k ≤ m ∧ Hid (ListsI wq B (.slice (some ⟨g, 0, none⟩) n cu) n V (fun j => if j < i then marksI j 0 (C j).length else if j = i then (marksI i 0 m).take k ++ (C i).drop k else C j)) ∧ Hid (wq.ownsRow wr.heap.size 3 1 (.slice am m cm) m (nats (marksI i 0 m))) ∧ Hid (Turns 3 B w1 wq)) (fun vk _ => m - (intOf vk).toNat)
      case atStart =>
        refine ⟨0, rfl, by omega, (hL.out.below HB1.out).congr (fun j _ => ?_), HM.out, Turns.refl _ _ _⟩
        by_cases e1 : j < i
        · simp [e1]
        · by_cases e2 : j = i
          · subst e2; simp
          · simp [e1, e2]
      case round =>
        obtain ⟨k, rfl, hk, hLq, hMq, hTq⟩ := hrel
        by_cases hkm : k < m
        · have c2 : wr.cell? ⟨p, 0, none⟩ = some (.slice (some ⟨g, 0, none⟩) n cu) := by
            have d0 := (hTq.out.cell (by decide) (show w1.heap[p]? = _ from (HB1.out.block p (Array.getElem?_eq_some_iff.1 (hT.out.cell (by decide) HP.out.1)).1).trans (hT.out.cell (by decide) HP.out.1)))
            rw [← H2.out]; simp [World.cell?, d0]
          obtain ⟨g2, cap2, hu2, _, _, cg⟩ := row_at hLq.out.row i hlt
          simp only [Value.slice.injEq, Option.some.injEq, Addr.mk.injEq, and_true, true_and] at hu2
          obtain ⟨rfl, rfl⟩ := hu2
          have hoi := hLq.out.each i hlt
          simp only [Nat.lt_irrefl, if_false, if_true] at hoi
          have hli : ((marksI i 0 m).take k ++ (C i).drop k).length = m := by
            rw [List.length_append, List.length_take, List.length_drop, marksI_length, hmm.out]; omega
          rw [hli] at hoi
          obtain ⟨gi, ci, hvi, _, hgi⟩ := hoi.form (by omega)
          obtain ⟨gm, cm2, hvm, hgm1, hgm⟩ := hMq.out.form (by omega)
          simp only [Value.slice.injEq, true_and] at hvm
          obtain ⟨rfl, rfl⟩ := hvm
          rw [hvi] at cg hoi
          have ci1 : wr.cell? ⟨gi, k, none⟩ = some (.int .i64 (((marksI i 0 m).take k ++ (C i).drop k)[k]'(by omega))) := by rw [hoi.cellAt k (by omega), nats_at]
          have fi1 := hoi.frozenAt k
          have cm1 : wr.cell? ⟨gm, k, none⟩ = some (.int .i64 (imark i k)) := by
            rw [hMq.out.cellAt k (by omega), nats_at _ _ (by rw [marksI_length]; exact hkm), marksI_at i 0 m k hkm, Nat.zero_add]
          generalize ((marksI i 0 m).take k ++ (C i).drop k)[k]'(by omega) = old at ci1
          have HOI := hid hoi
          clear hoi hli
          have hgo := (HO.out.lt gi (by rw [hvi]; rfl)).2
          go_wp2
          go_region
          all_goals go_wp2
          all_goals go_roundw
          case rel =>
            refine ⟨k + 1, by go_num, by omega, ?_, ?_, ?_⟩
            · have hs := hLq.out.store (i := i) (m := m) hlt (by simp only [Nat.lt_irrefl, if_false, if_true]; rw [List.length_append, List.length_take, List.length_drop, marksI_length, hmm.out]; omega) hvi k (imark i k)
              refine ListsI.congr (show ListsI _ _ _ _ _ _ from ListsI.below hs (Below.drew (Below.refl _ _))) (fun j _ => ?_)
              by_cases e2 : j = i
              · subst e2
                simp only [Nat.lt_irrefl, if_false, if_true]
                have := set_mid (marksI j 0 m) (C j) k (by rw [marksI_length]; exact hkm) (by rw [marksI_length, hmm.out])
                rw [marksI_at j 0 m k hkm, Nat.zero_add] at this
                exact this
              · simp only [if_neg e2]
            · exact ownsRow_same hMq.out (fun g' hg' => by
                simp [Value.ownBlock] at hg'
                subst hg'
                exact Below.heap_setCell _ _ _ _ (by simp only; omega))
            · exact (hTq.out.trans (turns_store HOI.out rfl k _)).drew
          case measure => simp [intOf]; omega
        · obtain rfl : k = m := by omega
          go_wp2
          go_roundw
          case rel =>
            refine ⟨i + 1, by go_num, by omega, hLq.out.congr (fun j _ => ?_), ((hT.out.trans (Turns.of_below HB1.out _ _)).trans hTq.out)⟩
            by_cases e1 : j < i
            · rw [if_pos e1, if_pos (by omega)]
            · by_cases e2 : j = i
              · subst e2
                rw [if_neg e1, if_pos rfl, if_pos (by omega), hmm.out, List.take_of_length_le (by rw [marksI_length]; omega), List.drop_eq_nil_of_le (by rw [hmm.out]; omega), List.append_nil]
              · rw [if_neg e1, if_neg e2, if_neg (by omega)]
          case measure => simp [intOf]; omega
    · go_wp2
      refine bodyPost_end (v := .tuple #[]) (by simp [results, Try.results24, go_sem]) rfl ⟨rfl, hL.out.congr (fun j hj => ?_), hT.out⟩
      rw [if_pos (by omega)]
end Go.Proofs.Ytgmfjgiakgoofaa
