/-
  Contracts of package lexiphanebook over lists of texts: grow and marked.
-/
import Derived.Test.YtgmfjgiakgoofaaBookTexts2
namespace Go.Proofs.Ytgmfjgiakgoofaa
open Go.ChangeShapes Go.WideShapes Go.ChangeAt Go.RowKit

theorem Try.infoStrs : (Try.prog.info? 55).map (fun i => (i.zero, i.size, i.bytes)) = some (some (.slice none 0 0), 1, 24) := by kernel_rfl

theorem markTexts_over (i k n : Nat) (hi : i ≤ 100000) (hk : k ≤ 100000) (hn : n ≤ 100000) (w0 w : World) (h0 : Below w0.heap.size w0 w) :
    Calls Try.prog 44 #[.int .i64 i, .int .i64 k, .int .i64 n] w fun e w' => ∃ v', e = .returned v' ∧ w'.ownsRow w0.heap.size 9 1 v' n (strs (marksT i k n)) ∧ Below w0.heap.size w0 w' ∧ ∀ p v, w.cell? p = some v → w'.cell? p = some v := by
  refine (markTexts_any i k n hi hk hn w).mono ?_
  rintro e w' ⟨v', rfl, ho, hb⟩
  exact ⟨v', rfl, ownsRow_lower ho h0.size, below_more h0 hb, keeps hb⟩

theorem sameTexts_mix {w0 w : World} {v u : Value} {xs ys : List ByteArray} (hv : Reads w0 v (strs xs)) (hu : Reads w u (strs ys)) (hx : xs.length ≤ 1000000) (hy : ys.length ≤ 1000000) (h0 : Below w0.heap.size w0 w) :
    Calls Try.prog 39 #[v, u] w fun e w' => e = .returned (.bool (decide (xs = ys))) ∧ Below w0.heap.size w0 w' ∧ ∀ p v, w.cell? p = some v → w'.cell? p = some v := by
  refine (sameTexts_any (hv.below h0) hu hx hy).mono ?_
  rintro e w' ⟨rfl, hb⟩
  exact ⟨rfl, below_more h0 hb, keeps hb⟩

set_option maxRecDepth 20000 in
set_option maxHeartbeats 2000000 in
theorem markedTexts_any {w : World} {B : Nat} {u : Value} {n : Nat} {V : Nat → Value} {C : Nat → List ByteArray} (h : ListsT w B u n V C) (hm : ∀ j, j < n → C j = marksT j 0 (C j).length) (hn : n ≤ 250) (hC : ∀ j, j < n → (C j).length ≤ 100000) :
    Calls Try.prog 35 #[u] w fun e w' => e = .returned (.bool true) ∧ Below w.heap.size w w' := by
  obtain ⟨ao, cu, rfl⟩ := ownsRow_slice h.row
  have HC := hid hC
  have HL := hid h
  have HM := hid hm
  clear hC h hm
  go_enter Try.func35, Try.ntmps35
  go_wp2
  go_loopw [3] (fun vi wr => ∃ i : Nat, vi = .int .i64 i ∧ i ≤ n ∧ Below w.heap.size w wr) (fun vi _ => n - (intOf vi).toNat)
  case atStart => exact ⟨0, rfl, by omega, Below.refl _ _⟩
  case round =>
    obtain ⟨i, rfl, hi, hbl⟩ := hrel
    by_cases hlt : i < n
    · obtain ⟨g, cap, hu, hg1, hg2, hcell⟩ := row_at HL.out.row i hlt
      simp only [Value.slice.injEq, true_and] at hu
      obtain ⟨rfl, rfl⟩ := hu
      have e2 := keeps hbl _ _ hcell
      have hown := HL.out.each i hlt
      have r1 := ownsRow_reads hown
      have hc1 := HC.out i hlt
      have hmi := HM.out i hlt
      obtain ⟨av, cv, hv⟩ := ownsRow_slice hown
      rw [hv] at e2 r1
      generalize hL : (C i).length = m at hc1 hmi e2 r1
      rw [hmi] at r1
      clear hcell hown hv hmi hL
      have hbd := hbl.drew
      have hml := marksT_length i 0 m
      go_wp2
      go_region_held_law (fun w' => w'.cell? ⟨g, i, none⟩ = some (.slice av m cv) ∧ Below w.heap.size w w') (go_keep) (first
        | (have _h := later; go_at_call 39; refine (sameTexts_mix r1 (ownsRow_reads hom) (by omega) (by omega) (by assumption)).mono ?_; rintro e w3 ⟨rfl, hb3, hk3⟩)
        | (go_at_call 44; refine (markTexts_over i 0 m (by omega) (by omega) (by omega) w _ (by assumption)).mono ?_; rintro e w2 ⟨vm, rfl, hom, hb2, hk2⟩; have later : True := trivial))
      go_wp2
      go_roundw
      case rel => exact ⟨i + 1, by go_num, by omega, hb3⟩
      case measure => simp [intOf]; omega
    · go_wp2
      go_ret
      exact ⟨rfl, hbl⟩

/-- r lies in another block than l. -/
def Off (l r : Value) : Prop := r.ownBlock = none ∨ r.ownBlock ≠ l.ownBlock

/-- A value that is a beginning of another one in the same block reads as ever where that one does. -/
theorem prefix_keeps {w w' : World} {B : Nat} {e : TypeId} {v l : Value} {n n' : Nat} {xs xs' : List Value} (hv : w.ownsRow B e 1 v n xs) (hl : w.ownsRow B e 1 l n' xs') (hl' : w'.ownsRow B e 1 l n' xs') (hb : v.ownBlock = l.ownBlock) (hn : n ≤ n') : w'.ownsRow B e 1 v n xs := by
  rcases hv.2 with ⟨rfl, rfl⟩ | ⟨g, cap, cur, rfl, hbg, hg, hnc, hcm, hcs, ht⟩
  · exact ⟨hv.1, .inl ⟨rfl, rfl⟩⟩
  · rcases hl.2 with ⟨rfl, rfl⟩ | ⟨g2, cap2, cur2, rfl, hbg2, hg2, hnc2, hcm2, hcs2, ht2⟩
    · simp [Value.ownBlock] at hb
    · simp [Value.ownBlock] at hb
      subst hb
      rw [hg] at hg2
      injection hg2 with hg2
      injection hg2 with hg2
      subst hg2
      rcases hl'.2 with ⟨h, _⟩ | ⟨g3, cap3, cur3, h3, hbg3, hg3, hnc3, hcm3, hcs3, ht3⟩
      · simp at h
      · simp only [Value.slice.injEq, Option.some.injEq, Addr.mk.injEq, and_true, true_and] at h3
        obtain ⟨rfl, rfl⟩ := h3
        refine ⟨hv.1, .inr ⟨g, cap, cur3, rfl, hbg, hg3, hnc, hcm, by omega, ?_⟩⟩
        rw [← ht]
        have h1 : cur3.toList.take (n * 1) = (cur3.toList.take (n' * 1)).take (n * 1) := by rw [List.take_take, Nat.min_eq_left (by omega)]
        have h2 : cur.toList.take (n * 1) = (cur.toList.take (n' * 1)).take (n * 1) := by rw [List.take_take, Nat.min_eq_left (by omega)]
        rw [h1, h2, ht3, ht2]

/-- Growing: the first i lists are grown; l is list i, grown by q. -/
structure GrowT (w : World) (B n i : Nat) (V V' : Nat → Value) (C : Nat → List ByteArray) : Prop where
  each : ∀ j, j < i → w.ownsRow B 9 1 (V' j) ((C j).length + 72) (strs (C j ++ marksT j (C j).length 72))
  apart : ∀ j k, j < i → k < i → j ≠ k → Off (V' j) (V' k)
  far : ∀ j k, j < i → k < n → j ≠ k → Off (V' j) (V k)

structure OnT (w : World) (B : Nat) (u : Value) (n i : Nat) (V V' : Nat → Value) (C : Nat → List ByteArray) (l : Value) (L : Nat) (xs : List ByteArray) : Prop where
  lists : ListsT w B u n V C
  grown : GrowT w B n i V V' C
  own : w.ownsRow B 9 1 l L (strs xs)
  off : ∀ k, k < n → k ≠ i → Off l (V k)
  off' : ∀ j, j < i → Off l (V' j)
  more : (C i).length ≤ L

theorem OnT.below {w w' : World} {B : Nat} {u : Value} {n i : Nat} {V V' : Nat → Value} {C : Nat → List ByteArray} {l : Value} {L : Nat} {xs : List ByteArray} (h : OnT w B u n i V V' C l L xs) (hb : Below w.heap.size w w') : OnT w' B u n i V V' C l L xs :=
  ⟨h.lists.below hb, ⟨fun j hj => ownsRow_below (h.grown.each j hj) hb, h.grown.apart, h.grown.far⟩, ownsRow_below h.own hb, h.off, h.off', h.more⟩

theorem off_new {w : World} {B : Nat} {e : TypeId} {l l' r : Value} {n : Nat} {xs : List Value} (ho : Off l r) (hr : w.ownsRow B e 1 r n xs) (hat : l'.ownBlock = l.ownBlock ∨ l'.ownBlock = some w.heap.size) : Off l' r := by
  rcases hat with ha | ha
  · rw [Off, ha]; exact ho
  · cases hb : r.ownBlock with
    | none => exact .inl hb
    | some g => exact .inr (by have := (hr.lt g hb).2; rw [ha]; simp only [Option.some.injEq, ne_eq, hb]; omega)

theorem OnT.append {w w' : World} {B : Nat} {u : Value} {n i : Nat} {V V' : Nat → Value} {C : Nat → List ByteArray} {l : Value} {L m : Nat} {xs ys : List ByteArray} (h : OnT w B u n i V V' C l L xs) (hi : i < n) {l' : Value}
    (hown : w'.ownsRow B 9 1 l' (L + m) (strs xs ++ strs ys)) (hg : w.grownBy w' l.ownBlock) (hat : l'.ownBlock = l.ownBlock ∨ l'.ownBlock = some w.heap.size) (hold : w'.ownsRow B 9 1 l L (strs xs)) :
    OnT w' B u n i V V' C l' (L + m) (xs ++ ys) ∧ Turns 9 B w w' := by
  have hT : Turns 9 B w w' := ⟨hg.os, hg.tape, hg.output, hg.size, fun k hk hn => hg.block k hk (fun e => by
    obtain ⟨hB, cur, hh⟩ := ownsRow_block h.own k e.symm
    rcases hn with hn | hn
    · omega
    · exact hn cur (0, 0) hh)⟩
  refine ⟨⟨⟨hT.row (by decide) h.lists.row, fun j hj => ?_, h.lists.apart⟩, ⟨fun j hj => (h.grown.each j hj).kept hg (h.off' j hj), h.grown.apart, h.grown.far⟩, by rw [← strs_append]; exact hown, fun k hk hn => off_new (h.off k hk hn) (h.lists.each k hk) hat, fun j hj => off_new (h.off' j hj) (h.grown.each j hj) hat, by have := h.more; omega⟩, hT⟩
  by_cases e : j = i
  · subst e
    by_cases hs : (V j).ownBlock = l.ownBlock
    · exact prefix_keeps (h.lists.each j hj) h.own hold hs h.more
    · exact (h.lists.each j hj).kept hg (.inr hs)
  · exact (h.lists.each j hj).kept hg (h.off j hj e)

theorem slice_one {w : World} {B : Nat} {e : TypeId} {v : Value} {n : Nat} {xs : List Value} (h : w.ownsRow B e 1 v n xs) : v.oneCell' = true := by
  obtain ⟨ao, cap, rfl⟩ := ownsRow_slice h
  rfl

theorem Off.symm {l r : Value} (h : Off l r) (hl : l.ownBlock ≠ none) : Off r l := by
  rcases h with h | h
  · right; rw [h]; exact hl
  · right; exact fun e => h e.symm

theorem grow_round {w w4 w5 : World} {B : Nat} {o : Obj} {u : Value} {n i : Nat} {V V' : Nat → Value} {C : Nat → List ByteArray} {l vo vo' : Value}
    (hlt : i < n) (hon : OnT w4 B u n i V V' C l ((C i).length + 72) (C i ++ marksT i (C i).length 72))
    (hO : (w4.alloc o).ownsRow w.heap.size 55 1 vo i ((List.range i).map V')) (hg : (w4.alloc o).grownBy w5 vo.ownBlock)
    (hO5 : w5.ownsRow w.heap.size 55 1 vo' (i + 1) ((List.range i).map V' ++ [l])) (hat : vo'.ownBlock = vo.ownBlock ∨ vo'.ownBlock = some (w4.alloc o).heap.size)
    (hF : Off vo u) (hT : Turns 9 B w w4) (hB4 : B ≤ w4.heap.size) (hB : B ≤ w.heap.size) :
    GrowT w5 B n (i + 1) V (fun j => if j = i then l else V' j) C ∧ ListsT w5 B u n V C ∧ w5.ownsRow w.heap.size 55 1 vo' (i + 1) ((List.range (i + 1)).map (fun j => if j = i then l else V' j)) ∧ Off vo' u ∧ (Turns 9 B w w5 ∧ B ≤ w5.heap.size) := by
  have hba : Below w4.heap.size w4 (w4.alloc o) := (Below.refl _ _).alloc (Nat.le_refl _) _
  have hT5 : Turns 55 B (w4.alloc o) w5 := ⟨hg.os, hg.tape, hg.output, hg.size, fun k hk hn => hg.block k hk (fun e => by
    obtain ⟨hb, cur, hh⟩ := ownsRow_block hO k e.symm
    rcases hn with hn | hn
    · omega
    · exact hn cur (0, 0) hh)⟩
  have on2 := hon.below hba
  have hrow : ∀ {v : Value} {m : Nat} {xs : List Value}, (w4.alloc o).ownsRow B 9 1 v m xs → w5.ownsRow B 9 1 v m xs := fun h => hT5.row (by decide) h
  have hlb : l.ownBlock ≠ none := by
    obtain ⟨g, c, e, _⟩ := hon.own.form (by omega)
    rw [e]; simp [Value.ownBlock]
  refine ⟨⟨fun j hj => ?_, fun j k hj hk hjk => ?_, fun j k hj hk hjk => ?_⟩, ⟨?_, fun j hj => hrow (on2.lists.each j hj), on2.lists.apart⟩, ?_, ?_, ?_, ?_⟩
  · by_cases e : j = i
    · subst e
      simp only [if_true]
      exact hrow on2.own
    · simp only [if_neg e]
      exact hrow (on2.grown.each j (by omega))
  · by_cases e : j = i
    · subst e
      simp only [if_true, if_neg (Ne.symm hjk)]
      exact hon.off' k (by omega)
    · by_cases e2 : k = i
      · subst e2
        simp only [if_true, if_neg e]
        exact (hon.off' j (by omega)).symm hlb
      · simp only [if_neg e, if_neg e2]
        exact hon.grown.apart j k (by omega) (by omega) hjk
  · by_cases e : j = i
    · subst e
      simp only [if_true]
      exact hon.off k hk (Ne.symm hjk)
    · simp only [if_neg e]
      exact hon.grown.far j k (by omega) hk hjk
  · exact on2.lists.row.kept hg hF
  · have e : (List.range (i + 1)).map (fun j => if j = i then l else V' j) = (List.range i).map V' ++ [l] := by
      rw [List.range_succ, List.map_append]
      congr 1
      · apply List.map_congr_left
        intro j hj
        rw [if_neg (by have := List.mem_range.1 hj; omega)]
      · simp
    rw [e]
    exact hO5
  · exact off_new hF on2.lists.row hat
  · have h1 := hT.trans (Turns.of_below hba _ B)
    refine ⟨hg.os.trans h1.os, hg.tape.trans h1.tape, hg.output.trans h1.output, Nat.le_trans h1.size hg.size, fun k hk hn => ?_⟩
    rw [hg.block k (Nat.lt_of_lt_of_le hk h1.size) (fun e => by
      have := (ownsRow_block hO k e.symm).1
      omega)]
    exact h1.block k hk hn
  · exact Nat.le_trans hB4 (Nat.le_trans hba.size hg.size)

set_option maxRecDepth 20000 in
set_option maxHeartbeats 2000000 in
theorem growTexts_any {w : World} {p B : Nat} {cs : Array Value} {u : Value} {n : Nat} {V : Nat → Value} {C : Nat → List ByteArray} (hp : BookAt w p cs) (h2 : cs[2]? = some u) (h : ListsT w B u n V C) (hn : n ≤ 250) (hC : ∀ j, j < n → (C j).length ≤ 50000) (hB : B ≤ w.heap.size) :
    Calls Try.prog 30 #[.pointer (some ⟨p, 0, none⟩)] w fun e w' => ∃ u', e = .returned u' ∧ (∃ V', ListsT w' B u' n V' (fun j => C j ++ marksT j (C j).length 72)) ∧ ListsT w' B u n V C ∧ Turns 9 B w w' := by
  obtain ⟨ao, cu, rfl⟩ := ownsRow_slice h.row
  have HP := hid hp
  have HC := hid hC
  have H2 := hid h2
  have HL := hid h
  clear hp hC h2 h
  obtain ⟨i0, hi0, hz0, hz1, hz2⟩ := info_parts Try.infoStr
  obtain ⟨i1, hi1, hy0, hy1, hy2⟩ := info_parts Try.infoStrs
  go_enter Try.func30, Try.ntmps30
  go_wp2
  go_loopw [3, 4] (fun vo vi wr => ∃ (i : Nat) (V' : Nat → Value), vi = .int .i64 i ∧ i ≤ n ∧ Hid (ListsT wr B (.slice ao n cu) n V C) ∧ Hid (GrowT wr B n i V V' C) ∧ Hid (wr.ownsRow w.heap.size 55 1 vo i ((List.range i).map V')) ∧ Hid (Off vo (.slice ao n cu)) ∧ Hid (Turns 9 B w wr ∧ B ≤ wr.heap.size)) (fun _ vi _ => n - (intOf vi).toNat)
  case atStart => exact ⟨0, fun _ => .slice none 0 0, rfl, by omega, HL.out, ⟨fun j hj => by omega, fun j k hj => by omega, fun j k hj => by omega⟩, World.ownsRow_nil _ _ _ _, by cases ao <;> simp [Off, Hid, Value.ownBlock], ⟨Turns.refl _ _ _, hB⟩⟩
  case round =>
    obtain ⟨i, V', rfl, hi, hL, hG, hO, hF, hT⟩ := hrel
    have d0 := (hT.out.1.cell (by decide) HP.out.1)
    have d2 : wr.cell? ⟨p, 2, none⟩ = some (.slice ao n cu) := by rw [← H2.out]; simp [World.cell?, d0]
    clear d0
    by_cases hlt : i < n
    · obtain ⟨g, cap, hu, hg1, hg2, hcell⟩ := row_at hL.out.row i hlt
      simp only [Value.slice.injEq, true_and] at hu
      obtain ⟨rfl, rfl⟩ := hu
      have hc1 := HC.out i hlt
      go_wp2
      go_loopw [5, 6] (fun vl vq wr2 => ∃ q L : Nat, vq = .int .i64 q ∧ q ≤ 12 ∧ Hid (L = (C i).length + q) ∧ L ≤ 60000 ∧ Hid (OnT wr2 B (.slice (some ⟨g, 0, none⟩) n cu) n i V V' C vl L (C i ++ marksT i (C i).length q)) ∧ Hid (wr2.ownsRow w.heap.size 55 1 u3 i ((List.range i).map V')) ∧ Hid (Turns 9 B w wr2 ∧ B ≤ wr2.heap.size)) (fun _ vq _ => 12 - (intOf vq).toNat)
      case atStart =>
        refine ⟨0, (C i).length, rfl, by omega, rfl, by omega, ⟨hL.out, hG.out, by have := hL.out.each i hlt; simpa [marksT] using this, fun k hk hn => ?_, fun j hj => ?_, Nat.le_refl _⟩, hO.out, hT.out⟩
        · exact hL.out.apart k i hk hlt hn
        · have := hG.out.far j i hj hlt (by omega)
          rcases this with h | h
          · right
            rw [h]
            obtain ⟨gg, cc, hvv, _⟩ := (hG.out.each j hj).form (by omega)
            rw [hvv]; simp [Value.ownBlock]
          · right; exact fun e => h e.symm
      case round =>
        obtain ⟨q, L, rfl, hq, hLq, hL6, hOn, hO2, hT2⟩ := hrel
        obtain ⟨al, cl, rfl⟩ := ownsRow_slice hOn.out.own
        by_cases hq12 : q < 12
        · go_wp2_with (first
            | (go_at_call 44; refine (markTexts_any i L 1 (by omega) (by omega) (by omega) _).mono ?_; rintro e w3 ⟨vm, rfl, hom, hb3⟩; have hOn3 := hid (hOn.out.below hb3))
            | (at_builtin; refine wpList_append_reads _ rfl (.tmp 27) (.tmp 31) 55 rfl B 9 i0 (.string ⟨#[]⟩) 16 Try.underlying55 hi0 hz0 hz1 hz2 rfl (.slice al L cl) L _ rfl hOn3.out.own vm (strs (marksT i L 1)) rfl (ownsRow_reads hom) (strs_one _) (by rw [strs_length, marksT_length]; unfold maxLen; omega) (by rw [strs_length, marksT_length]; omega) (Nat.le_trans hT2.out.2 hb3.size) ?_; intro v' w4 hown4 hgrow hat hold))
          rw [strs_length, marksT_length] at hown4
          have hstep := hOn3.out.append hlt hown4 hgrow hat hold
          go_roundw
          case rel =>
            refine ⟨q + 1, L + 1, by go_num, by omega, by show _ = _; rw [hLq.out]; omega, by have := hLq.out; omega, ?_, hstep.2.row (by decide) (ownsRow_below hO2.out hb3), (hT2.out.1.trans (Turns.of_below hb3 _ _)).trans hstep.2, Nat.le_trans (Nat.le_trans hT2.out.2 hb3.size) hstep.2.size⟩
            have := hstep.1
            rw [hLq.out, List.append_assoc, marksT_append] at this
            rw [hLq.out]
            exact this
          case measure => simp [intOf]; omega
        · obtain rfl : q = 12 := by omega
          go_wp2_with (first
            | (go_at_call 44; refine (markTexts_any i L 60 (by omega) (by omega) (by omega) _).mono ?_; rintro e w3 ⟨vm, rfl, hom, hb3⟩; have hOn3 := hid (hOn.out.below hb3))
            | (have _h := m1; at_builtin; refine wpList_append_reads _ rfl (.tmp 33) (.tmp 40) 32 rfl w.heap.size 55 i1 (.slice none 0 0) 24 Try.underlying32 hi1 hy0 hy1 hy2 rfl u3 i ((List.range i).map V') rfl (hO4.out.alloc _) _ [.slice av (L + 60) cv] rfl (reads_built w4 #[.slice av (L + 60) cv] _ 1 rfl) (by intro u hu; simp at hu; subst hu; exact hone) (by unfold maxLen; simp; omega) (by simp; omega) (by have := hsz4.out; simp; omega) ?_; intro vo' w5 hown5 hgrow5 hat5 hold5)
            | (at_builtin; refine wpList_append_reads _ rfl (.tmp 34) (.tmp 38) 55 rfl B 9 i0 (.string ⟨#[]⟩) 16 Try.underlying55 hi0 hz0 hz1 hz2 rfl (.slice al L cl) L _ rfl hOn3.out.own vm (strs (marksT i L 60)) rfl (ownsRow_reads hom) (strs_one _) (by rw [strs_length, marksT_length]; unfold maxLen; omega) (by rw [strs_length, marksT_length]; omega) (Nat.le_trans hT2.out.2 hb3.size) ?_; intro v' w4 hown4 hgrow hat hold; rw [strs_length, marksT_length] at hown4; obtain ⟨av, cv, rfl⟩ := ownsRow_slice hown4; have hstep := hid (hOn3.out.append hlt hown4 hgrow hat hold); have hO4 := hid (hstep.out.2.row (by decide) (ownsRow_below hO2.out hb3)); have hT4 := hid ((hT2.out.1.trans (Turns.of_below hb3 _ _)).trans hstep.out.2); have hone := slice_one hown4; have hsz4 := hid hT4.out.size; have m1 : True := trivial))
          go_roundw
          case rel =>
            have hx : C i ++ marksT i (C i).length 12 ++ marksT i L 60 = C i ++ marksT i (C i).length 72 := by rw [List.append_assoc, hLq.out, marksT_append]
            have hl : L + 60 = (C i).length + 72 := by rw [hLq.out]
            have hon := hstep.out.1
            obtain ⟨lv, hlv⟩ : ∃ lv, lv = Value.slice av (L + 60) cv := ⟨_, rfl⟩
            have hown6 : w5.ownsRow w.heap.size 55 1 vo' (i + 1) ((List.range i).map V' ++ [Value.slice av (L + 60) cv]) := hown5
            rw [← hlv] at hon hown6
            rw [hx, hl] at hon
            obtain ⟨hg5, hl5, ho5, hf5, hT5⟩ := grow_round hlt hon (hO4.out.alloc _) hgrow5 hown6 hat5 hF.out hT4.out (Nat.le_trans hT2.out.2 (Nat.le_trans hb3.size hstep.out.2.size)) hB
            exact ⟨i + 1, fun j => if j = i then lv else V' j, by go_num, by omega, hl5, hg5, ho5, hf5, hT5⟩
          case measure => simp [intOf]; omega
    · obtain rfl : i = n := by omega
      go_wp2
      go_ret
      refine ⟨_, rfl, ⟨V', ownsRow_lower hO.out hB, fun j hj => ?_, fun j k hj hk hn => hG.out.apart k j hk hj (Ne.symm hn)⟩, hL.out, hT.out.1⟩
      have := hG.out.each j hj
      rw [List.length_append, marksT_length]
      exact this
end Go.Proofs.Ytgmfjgiakgoofaa
