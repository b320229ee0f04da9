/-
  Contracts of package lexiphanebook over lists of texts: still, put, grow, marked.
-/
import Derived.Test.YtgmfjgiakgoofaaBookTexts1
namespace Go.Proofs.Ytgmfjgiakgoofaa
open Go.ChangeShapes Go.WideShapes Go.ChangeAt Go.RowKit

/-- Nothing but rows of elements of type e, from B on, has turned; new blocks may have come. -/
structure Turns (e : TypeId) (B : Nat) (w w' : World) : Prop where
  os : w'.os = w.os
  tape : w'.tape = w.tape
  output : w'.output = w.output
  size : w.heap.size ≤ w'.heap.size
  block : ∀ k, k < w.heap.size → (k < B ∨ ∀ c fr, w.heap[k]? ≠ some (.cells c e fr)) → w'.heap[k]? = w.heap[k]?

theorem Turns.refl (e : TypeId) (B : Nat) (w : World) : Turns e B w w := ⟨rfl, rfl, rfl, Nat.le_refl _, fun _ _ _ => rfl⟩
theorem Turns.trans {e : TypeId} {B : Nat} {a b c : World} (h : Turns e B a b) (k : Turns e B b c) : Turns e B a c :=
  ⟨k.os.trans h.os, k.tape.trans h.tape, k.output.trans h.output, Nat.le_trans h.size k.size, fun i hi hn => by
    have e1 := h.block i hi hn
    have e2 := k.block i (Nat.lt_of_lt_of_le hi h.size) (hn.imp id (fun hx c fr => by rw [e1]; exact hx c fr))
    exact e2.trans e1⟩
theorem Turns.of_below {w w' : World} (h : Below w.heap.size w w') (e : TypeId) (B : Nat) : Turns e B w w' :=
  ⟨h.os, h.tape, h.output, h.size, fun k hk _ => h.block k hk⟩
theorem Turns.below {e : TypeId} {B : Nat} {w w' : World} (h : Turns e B w w') (hB : B ≤ w.heap.size) : Below B w w' :=
  ⟨h.os, h.tape, h.output, h.size, fun k hk => h.block k (by omega) (.inl hk)⟩
theorem Turns.drew {e : TypeId} {B : Nat} {w w' : World} (h : Turns e B w w') : Turns e B w w'.drew := ⟨h.os, h.tape, h.output, h.size, h.block⟩

/-- A row of elements of another type outlasts it. -/
theorem Turns.row {e e' : TypeId} {B B' : Nat} {w w' : World} (h : Turns e B w w') (hne : e' ≠ e) {size : Nat} {v : Value} {n : Nat} {xs : List Value} (ho : w.ownsRow B' e' size v n xs) : w'.ownsRow B' e' size v n xs := by
  refine ownsRow_same ho (fun g hg => ?_)
  obtain ⟨_, cur, hh⟩ := ownsRow_block ho g hg
  exact h.block g (ho.lt g hg).2 (.inr (fun c fr hc => by rw [hh] at hc; injection hc with hc; injection hc with _ h2; exact hne h2))

/-- A cell of a block of another type outlasts it. -/
theorem Turns.cell {e e' : TypeId} {B : Nat} {w w' : World} (h : Turns e B w w') (hne : e' ≠ e) {p : Nat} {cs : Array Value} {fr : Nat × Nat} (hp : w.heap[p]? = some (.cells cs e' fr)) : w'.heap[p]? = some (.cells cs e' fr) := by
  rw [h.block p (Array.getElem?_eq_some_iff.1 hp).1 (.inr (fun c fr hc => by rw [hp] at hc; injection hc with hc; injection hc with _ h2; exact hne h2))]
  exact hp

/-- Lists of texts, each in memory of its own: n of them, the values V, what they read as C; u is the row of them. -/
structure ListsT (w : World) (B : Nat) (u : Value) (n : Nat) (V : Nat → Value) (C : Nat → List ByteArray) : Prop where
  row : w.ownsRow B 55 1 u n ((List.range n).map V)
  each : ∀ j, j < n → w.ownsRow B 9 1 (V j) (C j).length (strs (C j))
  apart : ∀ i j, i < n → j < n → i ≠ j → (V i).ownBlock = none ∨ (V i).ownBlock ≠ (V j).ownBlock

theorem ListsT.below {w w' : World} {B : Nat} {u : Value} {n : Nat} {V : Nat → Value} {C : Nat → List ByteArray} (h : ListsT w B u n V C) (hb : Below w.heap.size w w') : ListsT w' B u n V C :=
  ⟨ownsRow_below h.row hb, fun j hj => ownsRow_below (h.each j hj) hb, h.apart⟩

theorem ListsT.congr {w : World} {B : Nat} {u : Value} {n : Nat} {V : Nat → Value} {C D : Nat → List ByteArray} (h : ListsT w B u n V C) (hc : ∀ j, j < n → C j = D j) : ListsT w B u n V D :=
  ⟨h.row, fun j hj => by rw [← hc j hj]; exact h.each j hj, h.apart⟩

/-- The Book at block p: its ten cells. -/
def BookAt (w : World) (p : Nat) (cs : Array Value) : Prop := w.heap[p]? = some (.cells cs 37 (0, 0)) ∧ cs.size = 10
theorem BookAt.cell {w : World} {p : Nat} {cs : Array Value} (h : BookAt w p cs) (j : Nat) : w.cell? ⟨p, j, none⟩ = cs[j]? := by simp [World.cell?, h.1]

/-- What lies at place j of a row of one's own. -/
theorem row_at {w : World} {B : Nat} {e : TypeId} {u : Value} {n : Nat} {V : Nat → Value} (h : w.ownsRow B e 1 u n ((List.range n).map V)) (j : Nat) (hj : j < n) : ∃ g cap, u = .slice (some ⟨g, 0, none⟩) n cap ∧ B ≤ g ∧ g < w.heap.size ∧ w.cell? ⟨g, j, none⟩ = some (V j) := by
  obtain ⟨g, cap, rfl, hB, hg⟩ := h.form (by omega)
  refine ⟨g, cap, rfl, hB, hg, ?_⟩
  rw [h.cellAt j (by omega)]
  simp [hj]

theorem sameTexts_over {w0 : World} {v u : Value} {xs ys : List ByteArray} (hv : Reads w0 v (strs xs)) (hu : Reads w0 u (strs ys)) (hx : xs.length ≤ 1000000) (hy : ys.length ≤ 1000000) (w : World) (h0 : Below w0.heap.size w0 w) :
    Calls Try.prog 39 #[v, u] w fun e w' => e = .returned (.bool (decide (xs = ys))) ∧ Below w0.heap.size w0 w' ∧ ∀ p v, w.cell? p = some v → w'.cell? p = some v := by
  refine (sameTexts_any (hv.below h0) (hu.below h0) hx hy).mono ?_
  rintro e w' ⟨rfl, hb⟩
  exact ⟨rfl, below_more h0 hb, keeps hb⟩

set_option maxRecDepth 20000 in
set_option maxHeartbeats 2000000 in
theorem stillTexts_any {w : World} {p B : Nat} {cs : Array Value} {u u' : Value} {n : Nat} {V V' : Nat → Value} {C : Nat → List ByteArray} (hp : BookAt w p cs) (h2 : cs[2]? = some u) (h3 : cs[3]? = some u') (h : ListsT w B u n V C) (h' : ListsT w B u' n V' C) (hn : n ≤ 250) (hC : ∀ j, j < n → (C j).length ≤ 50000) :
    Calls Try.prog 20 #[.pointer (some ⟨p, 0, none⟩)] w fun e w' => e = .returned (.bool true) ∧ Below w.heap.size w w' := by
  have c2 := hp.cell 2
  have c3 := hp.cell 3
  rw [h2] at c2
  rw [h3] at c3
  have HL := hid h
  have HL' := hid h'
  have HC := hid hC
  obtain ⟨ao, cu, rfl⟩ := ownsRow_slice h.row
  obtain ⟨ao', cu', rfl⟩ := ownsRow_slice h'.row
  clear h h' hC h2 h3 hp
  go_enter Try.func20, Try.ntmps20
  go_wp2
  go_loopw [3] (fun vi wr => ∃ i : Nat, vi = .int .i64 i ∧ i ≤ n ∧ Below w.heap.size w wr) (fun vi _ => n - (intOf vi).toNat)
  case atStart => exact ⟨0, rfl, by omega, Below.refl _ _⟩
  case round =>
    obtain ⟨i, rfl, hi, hbl⟩ := hrel
    have d2 := keeps hbl _ _ c2
    have d3 := keeps hbl _ _ c3
    by_cases hlt : i < n
    · obtain ⟨g, cap, hu, hg1, hg2, hcell⟩ := row_at HL.out.row i hlt
      obtain ⟨g', cap', hu', hg1', hg2', hcell'⟩ := row_at HL'.out.row i hlt
      simp only [Value.slice.injEq, true_and] at hu hu'
      obtain ⟨rfl, rfl⟩ := hu
      obtain ⟨rfl, rfl⟩ := hu'
      have e2 := keeps hbl _ _ hcell
      have e3 := keeps hbl _ _ hcell'
      have r1 := ownsRow_reads (HL.out.each i hlt)
      have r2 := ownsRow_reads (HL'.out.each i hlt)
      have hc1 := HC.out i hlt
      generalize V i = v at hcell e2 r1
      generalize V' i = v' at hcell' e3 r2
      generalize C i = xs at r1 r2 hc1
      clear hcell hcell' c2 c3
      have hbd := hbl.drew
      go_wp2
      go_region_held_law (fun w' => w'.cell? ⟨p, 2, none⟩ = some (.slice (some ⟨g, 0, none⟩) n cu) ∧ w'.cell? ⟨p, 3, none⟩ = some (.slice (some ⟨g', 0, none⟩) n cu') ∧ w'.cell? ⟨g, i, none⟩ = some v ∧ w'.cell? ⟨g', i, none⟩ = some v' ∧ Below w.heap.size w w') (go_keep) (first | (go_at_call 39; refine (sameTexts_over r1 r2 (by omega) (by omega) _ (by assumption)).mono ?_; rintro e w2 ⟨rfl, hb2, hk2⟩))
      go_wp2
      go_roundw
      case rel => exact ⟨i + 1, by go_num, by omega, hb2⟩
      case measure => simp [intOf]; omega
    · go_wp2
      go_ret
      exact ⟨rfl, hbl⟩
theorem ownsRow_own {w : World} {B : Nat} {e : TypeId} {v : Value} {n : Nat} {xs : List Value} (h : w.ownsRow B e 1 v n xs) (hn : 0 < n) : ∃ g cap, v = .slice (some ⟨g, 0, none⟩) n cap ∧ B ≤ g ∧ g < w.heap.size := h.form hn

/-- A store into a row of one's own is a turn of rows of that type. -/
theorem turns_store {w : World} {B : Nat} {e : TypeId} {v : Value} {n cap g : Nat} {xs : List Value} (h : w.ownsRow B e 1 v n xs) (hv : v = .slice (some ⟨g, 0, none⟩) n cap) (j : Nat) (u : Value) : Turns e B w (w.setCell ⟨g, j, none⟩ u) := by
  subst hv
  obtain ⟨hB, cur, hh⟩ := ownsRow_block h g rfl
  refine ⟨rfl, rfl, rfl, by simp, fun k hk hn => ?_⟩
  apply Below.heap_setCell
  rintro rfl
  rcases hn with hn | hn
  · exact absurd hn (Nat.not_lt.2 hB)
  · exact hn cur (0, 0) hh

theorem ListsT.store {w : World} {B : Nat} {u : Value} {n : Nat} {V : Nat → Value} {C : Nat → List ByteArray} (h : ListsT w B u n V C) {i m g cap : Nat} (hi : i < n) (hm : (C i).length = m) (hv : V i = .slice (some ⟨g, 0, none⟩) m cap) (k : Nat) (t : ByteArray) :
    ListsT (w.setCell ⟨g, k, none⟩ (.string t)) B u n V (fun j => if j = i then (C i).set k t else C j) := by
  have hown := h.each i hi
  rw [hm, hv] at hown
  have hT := turns_store hown rfl k (.string t)
  refine ⟨hT.row (by decide) h.row, fun j hj => ?_, h.apart⟩
  by_cases e : j = i
  · subst e
    rw [if_pos rfl, List.length_set, hm, hv]
    have := (hown.stored k (.string t)).1
    have e2 : (strs (C j)).set k (.string t) = strs ((C j).set k t) := by simp [strs, List.map_set]
    rw [e2] at this
    exact this
  · rw [if_neg e]
    refine ownsRow_same (h.each j hj) (fun g' hg' => ?_)
    apply Below.heap_setCell
    rintro rfl
    rcases h.apart j i hj hi e with ha | ha
    · rw [ha] at hg'; cases hg'
    · exact ha (by rw [hg', hv]; rfl)

theorem ListsT.turned {e : TypeId} {B' : Nat} {w w' : World} {B : Nat} {u : Value} {n : Nat} {V : Nat → Value} {C : Nat → List ByteArray} (h : ListsT w B u n V C) (hT : Turns e B' w w') (h1 : 55 ≠ e) (h2 : 9 ≠ e) : ListsT w' B u n V C :=
  ⟨hT.row h1 h.row, fun j hj => hT.row h2 (h.each j hj), h.apart⟩

theorem set_mid {α : Type} (M X : List α) (k : Nat) (hk : k < M.length) (hl : M.length = X.length) : (M.take k ++ X.drop k).set k (M[k]'hk) = M.take (k + 1) ++ X.drop (k + 1) := by
  rw [List.set_append_right _ _ (by rw [List.length_take]; omega), List.length_take, Nat.min_eq_left (by omega), Nat.sub_self]
  rw [List.drop_eq_getElem_cons (by omega : k < X.length), List.set_cons_zero, List.take_succ_eq_append_getElem hk, List.append_assoc]
  rfl

theorem marksT_at (i k n j : Nat) (h : j < n) : (marksT i k n)[j]'(by rw [marksT_length]; exact h) = mname i (k + j) := by simp [marksT]

set_option maxRecDepth 20000 in
set_option maxHeartbeats 2000000 in
theorem putTexts_any {w : World} {p B : Nat} {cs : Array Value} {u : Value} {n : Nat} {V : Nat → Value} {C : Nat → List ByteArray} (hp : BookAt w p cs) (h2 : cs[2]? = some u) (h : ListsT w B u n V C) (hn : n ≤ 250) (hC : ∀ j, j < n → (C j).length ≤ 50000) :
    Calls Try.prog 25 #[.pointer (some ⟨p, 0, none⟩)] w fun e w' => e = .returned (.tuple #[]) ∧ ListsT w' B u n V (fun j => marksT j 0 (C j).length) ∧ Turns 9 B w w' := by
  obtain ⟨ao, cu, rfl⟩ := ownsRow_slice h.row
  have HP := hid hp
  have HC := hid hC
  have H2 := hid h2
  have HL := hid h
  clear hp hC h2 h
  go_enter Try.func25, Try.ntmps25
  go_wp2
  go_loopw [2] (fun vi wr => ∃ i : Nat, vi = .int .i64 i ∧ i ≤ n ∧ Hid (ListsT wr B (.slice ao n cu) n V (fun j => if j < i then marksT j 0 (C j).length else C j)) ∧ Hid (Turns 9 B w wr)) (fun vi _ => n - (intOf vi).toNat)
  case atStart => exact ⟨0, rfl, by omega, HL.out.congr (fun j _ => by simp), Turns.refl _ _ _⟩
  case round =>
    obtain ⟨i, rfl, hi, hL, hT⟩ := hrel
    have d0 := (hT.out.cell (by decide) HP.out.1)
    have d2 : wr.cell? ⟨p, 2, none⟩ = some (.slice ao n cu) := by rw [← H2.out]; simp [World.cell?, d0]
    clear d0
    by_cases hlt : i < n
    · obtain ⟨g, cap, hu, hg1, hg2, hcell⟩ := row_at hL.out.row i hlt
      simp only [Value.slice.injEq, true_and] at hu
      obtain ⟨rfl, rfl⟩ := hu
      have hown := hL.out.each i hlt
      rw [if_neg (Nat.lt_irrefl i)] at hown
      obtain ⟨av, cv, hv⟩ := ownsRow_slice hown
      have hc1 := HC.out i hlt
      generalize hm : (C i).length = m at hown hc1 hv
      rw [hv] at hcell
      have HO := hid hown
      have HV := hid hv
      clear hown hv
      have hmm : Hid ((C i).length = m) := hm
      clear hm
      go_wp2_with (go_at_call 44; refine (markTexts_any i 0 m (by omega) (by omega) (by omega) _).mono ?_; rintro e w1 ⟨vm, rfl, hom, hb1⟩)
      obtain ⟨am, cm, rfl⟩ := ownsRow_slice hom
      have HM := hid hom
      have HB1 := hid hb1
      have d2' := keeps hb1 _ _ d2
      have hcell' := keeps hb1 _ _ hcell
      clear hom hb1 d2 hcell
      go_loopw [4] (fun vk wq => ∃ k : Nat, vk = .int .i64 k ∧ k ≤ m ∧ Hid (ListsT wq B (.slice (some ⟨g, 0, none⟩) n cu) n V (fun j => if j < i then marksT j 0 (C j).length else if j = i then (marksT i 0 m).take k ++ (C i).drop k else C j)) ∧ Hid (wq.ownsRow wr.heap.size 9 1 (.slice am m cm) m (strs (marksT i 0 m))) ∧ Hid (Turns 9 B w1 wq)) (fun vk _ => m - (intOf vk).toNat)
      case atStart =>
        refine ⟨0, rfl, by omega, (hL.out.below HB1.out).congr (fun j _ => ?_), HM.out, Turns.refl _ _ _⟩
        by_cases e1 : j < i
        · simp [e1]
        · by_cases e2 : j = i
          · subst e2; simp
          · simp [e1, e2]
      case round =>
        obtain ⟨k, rfl, hk, hLq, hMq, hTq⟩ := hrel
        by_cases hkm : k < m
        · have c2 : wr.cell? ⟨p, 2, none⟩ = some (.slice (some ⟨g, 0, none⟩) n cu) := by
            have d0 := (hTq.out.cell (by decide) (show w1.heap[p]? = _ from (HB1.out.block p (Array.getElem?_eq_some_iff.1 (hT.out.cell (by decide) HP.out.1)).1).trans (hT.out.cell (by decide) HP.out.1)))
            rw [← H2.out]; simp [World.cell?, d0]
          obtain ⟨g2, cap2, hu2, _, _, cg⟩ := row_at hLq.out.row i hlt
          simp only [Value.slice.injEq, Option.some.injEq, Addr.mk.injEq, and_true, true_and] at hu2
          obtain ⟨rfl, rfl⟩ := hu2
          have hoi := hLq.out.each i hlt
          simp only [Nat.lt_irrefl, if_false, if_true] at hoi
          have hli : ((marksT i 0 m).take k ++ (C i).drop k).length = m := by
            rw [List.length_append, List.length_take, List.length_drop, marksT_length, hmm.out]; omega
          rw [hli] at hoi
          obtain ⟨gi, ci, hvi, _, hgi⟩ := hoi.form (by omega)
          obtain ⟨gm, cm2, hvm, hgm1, hgm⟩ := hMq.out.form (by omega)
          simp only [Value.slice.injEq, true_and] at hvm
          obtain ⟨rfl, rfl⟩ := hvm
          rw [hvi] at cg hoi
          have ci1 : wr.cell? ⟨gi, k, none⟩ = some (.string (((marksT i 0 m).take k ++ (C i).drop k)[k]'(by omega))) := by rw [hoi.cellAt k (by omega), strs_at]
          have fi1 := hoi.frozenAt k
          have cm1 : wr.cell? ⟨gm, k, none⟩ = some (.string (mname i k)) := by
            rw [hMq.out.cellAt k (by omega), strs_at _ _ (by rw [marksT_length]; exact hkm), marksT_at i 0 m k hkm, Nat.zero_add]
          generalize ((marksT i 0 m).take k ++ (C i).drop k)[k]'(by omega) = old at ci1
          have HOI := hid hoi
          clear hoi hli
          have hgo := (HO.out.lt gi (by rw [hvi]; rfl)).2
          go_wp2
          go_region
          all_goals go_wp2
          all_goals go_roundw
          case rel =>
            refine ⟨k + 1, by go_num, by omega, ?_, ?_, ?_⟩
            · have hs := hLq.out.store (i := i) (m := m) hlt (by simp only [Nat.lt_irrefl, if_false, if_true]; rw [List.length_append, List.length_take, List.length_drop, marksT_length, hmm.out]; omega) hvi k (mname i k)
              refine ListsT.congr (show ListsT _ _ _ _ _ _ from ListsT.below hs (Below.drew (Below.refl _ _))) (fun j _ => ?_)
              by_cases e2 : j = i
              · subst e2
                simp only [Nat.lt_irrefl, if_false, if_true]
                have := set_mid (marksT j 0 m) (C j) k (by rw [marksT_length]; exact hkm) (by rw [marksT_length, hmm.out])
                rw [marksT_at j 0 m k hkm, Nat.zero_add] at this
                exact this
              · simp only [if_neg e2]
            · exact ownsRow_same hMq.out (fun g' hg' => by
                simp [Value.ownBlock] at hg'
                subst hg'
                exact Below.heap_setCell _ _ _ _ (by simp only; omega))
            · exact (hTq.out.trans (turns_store HOI.out rfl k _)).drew
          case measure => simp [intOf]; omega
        · obtain rfl : k = m := by omega
          go_wp2
          go_roundw
          case rel =>
            refine ⟨i + 1, by go_num, by omega, hLq.out.congr (fun j _ => ?_), ((hT.out.trans (Turns.of_below HB1.out _ _)).trans hTq.out)⟩
            by_cases e1 : j < i
            · rw [if_pos e1, if_pos (by omega)]
            · by_cases e2 : j = i
              · subst e2
                rw [if_neg e1, if_pos rfl, if_pos (by omega), hmm.out, List.take_of_length_le (by rw [marksT_length]; omega), List.drop_eq_nil_of_le (by rw [hmm.out]; omega), List.append_nil]
              · rw [if_neg e1, if_neg e2, if_neg (by omega)]
          case measure => simp [intOf]; omega
    · go_wp2
      refine bodyPost_end (v := .tuple #[]) (by simp [results, Try.results25, go_sem]) rfl ⟨rfl, hL.out.congr (fun j hj => ?_), hT.out⟩
      rw [if_pos (by omega)]
end Go.Proofs.Ytgmfjgiakgoofaa
