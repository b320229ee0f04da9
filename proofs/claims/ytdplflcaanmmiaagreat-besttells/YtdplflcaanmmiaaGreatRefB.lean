/-
  Rows of the document's choices: two cells each; append. Contract of the document's own choices: all tokens at a place. Contract of the document's own Costs. Contract of the document's own Best.
-/
import Derived.Test.YtdplflcaanmmiaaGreatHitRows
import Derived.Test.YtdplflcaanmmiaaGreatAlive15
import Derived.Test.YtdplflcaanmmiaaGreatRefG
import Derived.Deep.CutRange
import Derived.Deep.RegionHeld
import Derived.BigQuiet
namespace Go.Proofs.YtdplflcaanmmiaaGreat
open Go.ChangeShapes Go.WideShapes Go.ChangeAt Go.RowKit

theorem Tryz.infoChoices : (Tryz.prog.info? 68).map (fun i => (i.zero, i.size, i.bytes)) = some (some (.agg #[.int .i64 0, .int .i64 0]), 2, 16) := by kernel_rfl

theorem ownsRow_readsChoices {w : World} {base : Nat} {v : Value} {n : Nat} {xs : List (Int × Int)} (h : w.ownsRow base 68 2 v n (hcells xs)) : ReadsH w v xs := by
  have hl : xs.length = n := by have := h.1; rw [hcells_length] at this; omega
  rcases h.2 with ⟨rfl, rfl⟩ | ⟨g, cap, cur, rfl, hb, hg, hnc, hcm, hcs, ht⟩
  · exact ⟨none, 0, by rw [hl], .inl hl⟩
  · refine ⟨_, cap, by rw [hl], .inr ⟨g, 0, rfl, (Array.getElem?_eq_some_iff.1 hg).1, fun i hi => ?_⟩⟩
    have h2 := hcells_at xs i hi
    rw [Nat.zero_add, ← h2.1, ← h2.2]
    exact ⟨World.ownsRow.cellAt h (i * 2) (by omega), World.ownsRow.cellAt h (i * 2 + 1) (by omega)⟩

/-- Appending hits that can be read. -/
theorem run_append_choices (w : World) (ty : TypeId) (base : Nat) (v : Value) (n : Nat) (xs : List (Int × Int)) (hown : w.ownsRow base 68 2 v n (hcells xs))
    (u : Value) (ys : List (Int × Int)) (hu : ReadsH w u ys) (h63 : n + ys.length ≤ 1000000) (hbase : base ≤ w.heap.size) :
    ∃ v' w', (Builtin.append_ #[65, 65] ty #[v, u]).run Tryz.prog w = .ok v' w' ∧
      w'.ownsRow base 68 2 v' (n + ys.length) (hcells (xs ++ ys)) ∧ w.grownBy w' v.ownBlock ∧ (v'.ownBlock = v.ownBlock ∨ v'.ownBlock = some w.heap.size) ∧ w'.ownsRow base 68 2 v n (hcells xs) := by
  obtain ⟨i0, hi0, hz0, hz1, hz2⟩ := info_parts Tryz.infoChoices
  obtain ⟨a, c, rfl, hr⟩ := hu
  by_cases h0 : ys.length = 0
  · have hn : ys = [] := List.eq_nil_of_length_eq_zero h0
    subst hn
    refine ⟨v, w, run_append_zero (P := Tryz.prog) w _ ty base 68 i0 2 Tryz.underlying65 hi0 v n (hcells xs) hown a c, ?_, ⟨rfl, rfl, rfl, Nat.le_refl _, fun _ _ _ => rfl⟩, .inl rfl, hown⟩
    rw [List.append_nil]
    exact hown
  · rcases hr with hr | ⟨b, off, rfl, hlt, hc⟩
    · exact absurd hr h0
    · obtain ⟨g, cap, w', h2, h3, h4, h5, h6, h7⟩ := run_append_keeps (P := Tryz.prog) w 65 ty base 68 i0 (.agg #[.int .i64 0, .int .i64 0]) 2 16 Tryz.underlying65 hi0 hz0 hz1 hz2 rfl (by decide) v n (hcells xs) hown ⟨b, off, none⟩ ys.length c (hcells ys) (hcells_length ys) (hits_cells hc) (hcells_one ys) (by omega) (by unfold maxLen; omega) (by omega) hbase
      rw [hcells_append] at h3
      refine ⟨_, w', h2, h3, h4, ?_, h7⟩
      rcases h5 with h5 | h5
      · exact .inl (by rw [h5]; rfl)
      · exact .inr (by rw [h5]; rfl)

theorem wpList_append_choices {ops : Array Oper} {rest : List Oper} {o : Oper} {a : Act} {Q : Exit → Act → World → Prop} (w : World) (hgd : o.guard = none) (s x : Operand)
    (ho : o.op = .call { callee := .builtin .append, args := #[s, x], argTypes := #[65, 65] })
    (base : Nat) (v : Value) (n : Nat) (xs : List (Int × Int)) (hs : a.eval s = v) (hown : w.ownsRow base 68 2 v n (hcells xs))
    (u : Value) (ys : List (Int × Int)) (hx : a.eval x = u) (hu : ReadsH w u ys) (h63 : n + ys.length ≤ 1000000) (hbase : base ≤ w.heap.size)
    (h : ∀ v' w', w'.ownsRow base 68 2 v' (n + ys.length) (hcells (xs ++ ys)) → w.grownBy w' v.ownBlock → (v'.ownBlock = v.ownBlock ∨ v'.ownBlock = some w.heap.size) → w'.ownsRow base 68 2 v n (hcells xs) → wpList Tryz.prog ops Q rest (a.put o.dst v') w') : wpList Tryz.prog ops Q (o :: rest) a w := by
  obtain ⟨v', w', hr, h2, h3, h4, h5⟩ := run_append_choices w o.type base v n xs hown u ys hu h63 hbase
  refine wpList_plain hgd fun K hK => ?_
  unfold Oper.wp execOp
  simp only [ho, resolve, invoke, builtin, Sem.run_bind, Sem.run_pure, Result.andThen_ok, List.map_toArray, List.map_cons, List.map_nil, hs, hx, hr]
  exact hK _ _ (h v' w' h2 h3 h4 h5)

/-- append of hits, at a step of a region that draws its order. -/
theorem step_append_choices {ops : Array Oper} {o : Oper} {a : Act} {K : Act → World → Prop} {Q : Exit → Act → World → Prop} {E : Prop} (w : World) (hgd : o.guard = none) (s x : Operand)
    (ho : o.op = .call { callee := .builtin .append, args := #[s, x], argTypes := #[65, 65] })
    (base : Nat) (v : Value) (n : Nat) (xs : List (Int × Int)) (hs : a.eval s = v) (hown : w.ownsRow base 68 2 v n (hcells xs))
    (u : Value) (ys : List (Int × Int)) (hx : a.eval x = u) (hu : ReadsH w u ys) (h63 : n + ys.length ≤ 1000000) (hbase : base ≤ w.heap.size)
    (h : ∀ v' w', w'.ownsRow base 68 2 v' (n + ys.length) (hcells (xs ++ ys)) → w.grownBy w' v.ownBlock → (v'.ownBlock = v.ownBlock ∨ v'.ownBlock = some w.heap.size) → w'.ownsRow base 68 2 v n (hcells xs) → K (a.put o.dst v') w') :
    if Region.wanted o (yielded ops a.tmps) = true then Oper.wp Tryz.prog o a w K Q else E := by
  have hw : Region.wanted o (yielded ops a.tmps) = true := by simp [Region.wanted, hgd]
  rw [if_pos hw]
  obtain ⟨v', w', hr, h2, h3, h4, h5⟩ := run_append_choices w o.type base v n xs hown u ys hu h63 hbase
  unfold Oper.wp execOp
  simp only [ho, resolve, invoke, builtin, Sem.run_bind, Sem.run_pure, Result.andThen_ok, List.map_toArray, List.map_cons, List.map_nil, hs, hx, hr]
  exact h v' w' h2 h3 h4 h5

end Go.Proofs.YtdplflcaanmmiaaGreat

namespace Go.Proofs.YtdplflcaanmmiaaGreat
open Go.ChangeShapes Go.WideShapes Go.ChangeAt Go.RowKit

set_option maxRecDepth 20000 in
set_option maxHeartbeats 4000000 in
theorem choices_any {w : World} {v : Value} {L : List ByteArray} (hv : Reads w v (strs L)) (hL : Fine L) (b : ByteArray) (hb : b.size ≤ 1000) (i : Nat) (hi : i < b.size) :
    Calls Tryz.prog 30 #[v, .string b, .int .i64 (i : Int)] w fun e w' => ∃ v', e = .returned v' ∧ w'.ownsRow w.heap.size 68 2 v' (bS L ((nums b).drop i)).length (hcells (asP (bS L ((nums b).drop i)))) ∧ Below w.heap.size w w' := by
  have hl100 : L.length ≤ 100 := hL.1
  have hl1 : L.length ≤ 1000 := by omega
  have HV := hid hv
  have HF := hid hL
  have HST := hid (stands_any hv hl1 b hb i hi)
  have HT := hid ((txt_nums b hb).drop i)
  obtain ⟨z, hz⟩ : ∃ z, z = (nums b).drop i := ⟨_, rfl⟩
  rw [← hz] at HST HT ⊢
  have HZ := hid hz
  obtain ⟨m, hm⟩ : ∃ m, m = (standsT (L.map nums) 40 z).length := ⟨_, rfl⟩
  rw [← hm] at HST
  have hm40 : m ≤ 40 := by rw [hm]; unfold standsT; refine Nat.le_trans (List.length_filter_le _ _) ?_; rw [List.length_reverse, List.length_range']; omega
  have HM := hid hm
  have hne : z ≠ [] := by
    intro e
    have := congrArg List.length e
    rw [hz, List.length_drop, nums_length] at this
    simp at this
    omega
  obtain ⟨c, hc⟩ : ∃ c, c = z.headD 0 := ⟨_, rfl⟩
  have hcb : ((b[i]'hi).toNat : Int) = (c : Int) := by
    rw [hc, hz]
    have h1 : (nums b).drop i = (b[i]'hi).toNat :: (nums b).drop (i + 1) := by
      rw [List.drop_eq_getElem_cons (by rw [nums_length]; exact hi), nums_at b i hi]
    rw [h1]
    rfl
  have hc1 : c < 256 := by have := (b[i]'hi).toNat_lt; omega
  have hbi := fun W => byte_index b i hi W
  rw [hcb] at hbi
  have hwc := Go.IntWalk.i64_in (c : Int) (by omega)
  have HSP : Hid (bS L z = sT L z ++ [(c, 1)]) := by show _ = _; rw [hc]; rfl
  clear hv hL hz hm hc hcb
  go_enter Tryz.func30, Tryz.ntmps30
  go_wp2_with (go_at_call 16; refine (HST.out).mono ?_; rintro e w1 ⟨v1, rfl, ho1, hb1⟩; obtain ⟨a1, c1, rfl⟩ := ownsRow_slice ho1; have HR1 := hid ho1; have HB1 := hid hb1; have HZ1 := hid hb1.size; have HV1 := hid (HV.out.below hb1); clear ho1 hb1)
  go_loopw [7, 9] (fun u vj wr => ∃ j : Nat, vj = .int .i64 j ∧ j ≤ m ∧ Hid (wr.ownsRow w1.heap.size 68 2 u j (hcells (asP ((sT L z).take j)))) ∧ Hid (Below w1.heap.size w1 wr)) (fun _ vj _ => m - (intOf vj).toNat)
  case atStart => exact ⟨0, rfl, by omega, World.ownsRow_nil _ _ _ _, Below.refl _ _⟩
  case round =>
    obtain ⟨j, rfl, hj, hown, hB⟩ := hrel
    obtain ⟨au, cu, rfl⟩ := ownsRow_slice hown.out
    by_cases hjm : j < m
    · have hjS : j < (standsT (L.map nums) 40 z).length := by rw [← HM.out]; exact hjm
      have hjT : j < (sT L z).length := by rw [sT_length]; exact hjS
      obtain ⟨g1, k1, e1, _, _⟩ := HR1.out.form (by omega)
      simp only [Value.slice.injEq] at e1
      obtain ⟨rfl, _, rfl⟩ := e1
      have cj0 := HR1.out.cellAt j (by omega)
      rw [numsI_at _ j hjS] at cj0
      have cj := keeps hB.out _ _ cj0
      have hxj : (decide ((0 : Int) ≤ (j : Int) ∧ (j : Int) < (m : Int))) = true := decide_eq_true ⟨by omega, by omega⟩
      obtain ⟨n, hn⟩ : ∃ n, n = (standsT (L.map nums) 40 z)[j]'hjS := ⟨_, rfl⟩
      rw [← hn] at cj
      have hnS := (standsT_mem (L.map nums) 40 (phrases_short HF.out) z n).1 (by rw [hn]; exact List.getElem_mem _)
      obtain ⟨hn1, hn2, _⟩ := hnS
      have hzl : z.length = b.size - i := by rw [HZ.out, List.length_drop, nums_length]
      rw [hzl] at hn2
      have htk := isT_small hl100 (tokT_is (L.map nums) z n HT.out.1)
      have HTD := fun (W : World) (hW : Below wr.heap.size wr W) => hid (token_any ((HV1.out.below hB.out).below hW) hl1 b hb i n hi (by omega))
      simp only [← HZ.out] at HTD
      obtain ⟨t, ht⟩ : ∃ t, t = tokT (L.map nums) z n := ⟨_, rfl⟩
      simp only [← ht] at HTD
      rw [← ht] at htk
      have HXS : Hid (asP ((sT L z).take j) ++ [((t : Int), (n : Int))] = asP ((sT L z).take (j + 1))) := by
        show _ = _
        rw [List.take_succ_eq_append_getElem hjT, asP_append]
        congr 1
        simp only [sT, List.getElem_map, ← hn, ← ht]
        rfl
      have HTW := HTD wr.drew (Below.refl _ _).drew
      have hwa : Below wr.heap.size wr (wr.alloc (.cells #[.int .i64 (t : Int), .int .i64 (n : Int)] 68)).drew := ((Below.refl _ _).alloc (Nat.le_refl _) _).drew
      have HOW := hid (ownsRow_below hown.out hwa)
      have HRW : Hid (ReadsH (wr.alloc (.cells #[.int .i64 (t : Int), .int .i64 (n : Int)] 68)).drew (.slice (some ⟨wr.heap.size, 0, none⟩) 1 1) [((t : Int), (n : Int))]) := (readsH_built wr 68 (t : Int) (n : Int)).below (Below.refl _ _).drew
      have hsz1 : w1.heap.size ≤ wr.heap.size := hB.out.size
      have HSZ := hid (Nat.le_trans hsz1 hwa.size)
      have HBA := hid (below_more hB.out hwa)
      have h106 : j + [((t : Int), (n : Int))].length ≤ 1000000 := by simp; omega
      have cj2 := fun o : Obj => keeps ((Below.refl wr.heap.size wr).alloc (Nat.le_refl _) o) _ _ cj
      clear hn hzl ht HTD cj0 hwa
      go_wp2
      go_region_law (first
        | (refine step_append_choices _ (by rfl) (.tmp 20) (.tmp 34) (by rfl) w1.heap.size (.slice au j cu) j _ (by simp [Act.eval]) HOW.out (.slice (some ⟨wr.heap.size, 0, none⟩) 1 1) [((t : Int), (n : Int))] (by simp [Act.eval]) HRW.out h106 HSZ.out ?_; intro v8 w8 hown8 hgr8 _ _; rw [HXS.out] at hown8; have HO8 := hid hown8; have HB8 := hid (HBA.out.grown hgr8 HSZ.out (fun g hg => (HOW.out.lt g hg).1)); clear hown8 hgr8)
        | (go_simp; go_at_call 17; refine (HTW.out).mono ?_; rintro e w7 ⟨rfl, hw7⟩; subst hw7))
      all_goals
        go_wp2
        go_roundw
        case rel => exact ⟨j + 1, by go_num, by omega, HO8.out, HB8.out⟩
        case measure => simp [intOf]; omega
    · obtain rfl : j = m := by omega
      have hown2 : wr.ownsRow w1.heap.size 68 2 (.slice au j cu) j (hcells (asP (sT L z))) := by
        have h1 := hown.out
        rw [List.take_of_length_le (by rw [sT_length, ← HM.out]; exact Nat.le_refl _)] at h1
        exact h1
      have HOW := hid (hown2.alloc (.cells #[.int .i64 (c : Int), .int .i64 1] 68))
      have hsz1 : w1.heap.size ≤ wr.heap.size := hB.out.size
      clear hown hown2
      go_wp2_with (at_builtin; refine wpList_append_choices _ rfl (.tmp 36) (.tmp 42) rfl w1.heap.size (.slice au j cu) j _ rfl HOW.out _ [((c : Int), (1 : Int))] rfl (readsH_built wr 68 (c : Int) 1) (by simp; omega) (by simp; omega) ?_; intro v8 w8 hown8 hgr8 _ _; have HO8 := hid hown8; have HB8 := hid ((hB.out.alloc hB.out.size _).grown hgr8 (by simp; omega) (fun g hg => (HOW.out.lt g hg).1)); clear hown8 hgr8)
      go_ret
      refine ⟨_, rfl, ?_, below_more HB1.out HB8.out⟩
      have h1 := ownsRow_lower HO8.out HZ1.out
      rw [HSP.out, asP_append, List.length_append, sT_length, ← HM.out]
      exact h1
end Go.Proofs.YtdplflcaanmmiaaGreat

namespace Go.Proofs.YtdplflcaanmmiaaGreat
open Go.ChangeShapes Go.WideShapes Go.ChangeAt Go.RowKit

theorem leastT_snoc (l : List (Nat × Nat)) (x : Nat × Nat) : ∀ c, leastT c (l ++ [x]) = if lt2 x (leastT c l) then x else leastT c l := by
  induction l with
  | nil => intro c; rfl
  | cons y l ih => intro c; rw [List.cons_append, leastT, ih, leastT]

/-- The least of the first q tokens of a place, as the document reckons it. -/
def curT (L : List ByteArray) (z : List Nat) (q : Nat) : Nat × Nat := leastT (bigN, 0) (((bS L z).take q).map (fun h => add2 (bB h.1) (bC L (z.drop h.2))))
theorem curT_zero (L : List ByteArray) (z : List Nat) : curT L z 0 = (bigN, 0) := rfl
theorem curT_next (L : List ByteArray) (z : List Nat) (q : Nat) (h : q < (bS L z).length) : curT L z (q + 1) = if lt2 (add2 (bB ((bS L z)[q]'h).1) (bC L (z.drop ((bS L z)[q]'h).2))) (curT L z q) then add2 (bB ((bS L z)[q]'h).1) (bC L (z.drop ((bS L z)[q]'h).2)) else curT L z q := by
  unfold curT
  rw [List.take_succ_eq_append_getElem h, List.map_append, List.map_cons, List.map_nil, leastT_snoc]
theorem curT_all {L : List ByteArray} (hP : ∀ s ∈ L.map nums, s.length ≤ 40) {z : List Nat} (hz : Txt z) (hne : z ≠ []) : curT L z (bS L z).length = bC L z := by
  unfold curT
  rw [List.take_length]
  exact (costT_by _ 40 hP bB bigN z hne hz.1).symm

/-- Rows of numbers of which those behind place a are told, and what place a has. -/
def behT (f : Nat → Nat) (a c : Nat) (k : Nat) : Value := .int .i64 ((if k = a then c else if a < k then f k else 0 : Nat) : Int)
theorem behT_at (f : Nat → Nat) (a c : Nat) : behT f a c a = .int .i64 (c : Int) := by simp [behT]
theorem behT_past (f : Nat → Nat) (a c k : Nat) (h : a < k) : behT f a c k = .int .i64 (f k : Int) := by unfold behT; rw [if_neg (by omega), if_pos h]

theorem two_made (w : World) (N : Nat) : ((w.alloc (.cells (madeCells #[.int .i64 0] N) 3)).alloc (.cells (madeCells #[.int .i64 0] N) 3)).drew.rowIs w.heap.size 3 N (fun _ => .int .i64 0) ∧ ((w.alloc (.cells (madeCells #[.int .i64 0] N) 3)).alloc (.cells (madeCells #[.int .i64 0] N) 3)).drew.rowIs (w.heap.size + 1) 3 N (fun _ => .int .i64 0) ∧ Below w.heap.size w ((w.alloc (.cells (madeCells #[.int .i64 0] N) 3)).alloc (.cells (madeCells #[.int .i64 0] N) 3)).drew := by
  have h1 := World.rowIs_made w (.int .i64 0) N 3
  have h2 := World.rowIs_made (w.alloc (.cells (madeCells #[.int .i64 0] N) 3)) (.int .i64 0) N 3
  refine ⟨(h1.alloc _).drew, ?_, (((Below.refl _ _).alloc (Nat.le_refl _) _).alloc (by simp) _).drew⟩
  have e : (w.alloc (.cells (madeCells #[.int .i64 0] N) 3)).heap.size = w.heap.size + 1 := by simp
  rw [e] at h2
  exact h2.drew

set_option maxRecDepth 20000 in
set_option maxHeartbeats 8000000 in
theorem refCosts_any {w : World} {v : Value} {L : List ByteArray} (hv : Reads w v (strs L)) (hL : Fine L) (b : ByteArray) (hb : b.size ≤ 1000) :
    Calls Tryz.prog 11 #[v, .string b] w fun e w' => ∃ g1 g2, e = .returned (.tuple #[.slice (some ⟨g1, 0, none⟩) (b.size + 1) (b.size + 1), .slice (some ⟨g2, 0, none⟩) (b.size + 1) (b.size + 1)]) ∧ w.heap.size ≤ g1 ∧ w.heap.size ≤ g2 ∧ w'.rowIs g1 3 (b.size + 1) (fun k => .int .i64 ((bC L ((nums b).drop k)).1 : Int)) ∧ w'.rowIs g2 3 (b.size + 1) (fun k => .int .i64 ((bC L ((nums b).drop k)).2 : Int)) ∧ Below w.heap.size w w' := by
  have HV := hid hv
  have HF := hid hL
  have HT := hid (txt_nums b hb)
  have hl100 : L.length ≤ 100 := hL.1
  obtain ⟨N, hN⟩ : ∃ N, N = b.size + 1 := ⟨_, rfl⟩
  have hNb : (b.size : Int) + 1 = (N : Int) := by omega
  have hwN := Go.IntWalk.i64_in (N : Int) (by omega)
  have hmk := run_make_row' (P := Tryz.prog) 27 3 (.int .i64 0) 8 Tryz.underlying27 Tryz.infoInt rfl .i64 .i64 N (by omega) (by omega)
  rw [← hN]
  have HN := hid hN
  have hN1 : N ≤ 1001 := by omega
  clear hv hL hN
  go_enter Tryz.func11, Tryz.ntmps11
  go_upto_region 1 with fail
  go_cut [6, 7] from 13 (fun u6 u7 wc => ∃ g1 g2 : Nat, u6 = .slice (some ⟨g1, 0, none⟩) N N ∧ u7 = .slice (some ⟨g2, 0, none⟩) N N ∧ Hid (g1 ≠ g2 ∧ w.heap.size ≤ g1 ∧ w.heap.size ≤ g2) ∧ Hid (wc.rowIs g1 3 N (fun _ => .int .i64 0)) ∧ Hid (wc.rowIs g2 3 N (fun _ => .int .i64 0)) ∧ Hid (Below w.heap.size w wc))
  case first =>
    go_region
    all_goals go_wp2
    all_goals go_meet
    all_goals obtain ⟨t1, t2, t3⟩ := two_made w N
    all_goals first
      | exact ⟨w.heap.size, w.heap.size + 1, rfl, rfl, ⟨by omega, by omega, by omega⟩, t1, t2, t3⟩
      | exact ⟨w.heap.size + 1, w.heap.size, rfl, rfl, ⟨by omega, by omega, by omega⟩, t2, t1, t3⟩
  case rest =>
    obtain ⟨g1, g2, rfl, rfl, HG, HR1, HR2, HB⟩ := hcut
    clear hmk
    go_wp2
    go_loopw [8] (fun vi wr => ∃ j : Nat, vi = .int .i64 ((j : Int) - 1) ∧ j ≤ b.size ∧ Hid (wr.rowIs g1 3 N (fun k => if j ≤ k then .int .i64 ((bC L ((nums b).drop k)).1 : Int) else .int .i64 0)) ∧ Hid (wr.rowIs g2 3 N (fun k => if j ≤ k then .int .i64 ((bC L ((nums b).drop k)).2 : Int) else .int .i64 0)) ∧ Hid (Below w.heap.size w wr)) (fun vi _ => (intOf vi + 1).toNat)
    case atStart =>
      refine ⟨b.size, rfl, Nat.le_refl _, HR1.out.congr (fun k hk => ?_), HR2.out.congr (fun k hk => ?_), HB.out⟩
      all_goals
        split
        · rw [List.drop_eq_nil_of_le (by rw [nums_length]; assumption)]; rfl
        · rfl
    case round =>
      clear HR1 HR2 HB
      obtain ⟨j, rfl, hj, hR1, hR2, hB⟩ := hrel
      rcases j with _ | a
      · go_wp2
        refine bodyPost_ret (v := .tuple #[.slice (some ⟨g1, 0, none⟩) N N, .slice (some ⟨g2, 0, none⟩) N N]) (by simp [results, Tryz.results11, go_sem]) rfl ?_
        exact ⟨g1, g2, rfl, HG.out.2.1, HG.out.2.2, hR1.out.congr (fun k _ => by rw [if_pos (Nat.zero_le _)]), hR2.out.congr (fun k _ => by rw [if_pos (Nat.zero_le _)]), hB.out⟩
      · have ha : a < b.size := by omega
        have hza : (((a + 1 : Nat) : Int) - 1) = (a : Int) := by omega
        have haN : a < N := by have := HN.out; omega
        have hxa : (decide ((0 : Int) ≤ (a : Int) ∧ (a : Int) < (N : Int))) = true := decide_eq_true ⟨by omega, by omega⟩
        rw [hza]
        have f1 := hR1.out.frozen a
        have c1 := hR1.out.cell haN
        have HQ1 := hid (hR1.out.set a (.int .i64 1099511627776))
        have HQ2 := hid (hR2.out.setOther (a := ⟨g1, a, none⟩) (Ne.symm HG.out.1) (.int .i64 1099511627776))
        have f2 := HQ2.out.frozen a
        have c2 := HQ2.out.cell haN
        rw [if_neg (by omega)] at c1 c2
        have HQ3 := hid ((HQ1.out).setOther (a := ⟨g2, a, none⟩) HG.out.1 (.int .i64 0))
        have HQ4 := hid (HQ2.out.set a (.int .i64 0))
        have HB3 : Hid (Below w.heap.size w ((wr.setCell ⟨g1, a, none⟩ (.int .i64 1099511627776)).setCell ⟨g2, a, none⟩ (.int .i64 0))) := (hB.out.setCell (p := ⟨g1, a, none⟩) HG.out.2.1 _).setCell (p := ⟨g2, a, none⟩) HG.out.2.2 _
        go_upto_region 6 with fail
        have hdr : (nums b).drop a ≠ [] := by
          intro e
          have := congrArg List.length e
          rw [List.length_drop, nums_length] at this
          simp at this
          omega
        obtain ⟨z, hz⟩ : ∃ z, z = (nums b).drop a := ⟨_, rfl⟩
        have HCH := hid (choices_any (HV.out.below HB3.out) HF.out b hb a ha)
        rw [← hz] at hdr HCH
        have HZ := hid hz
        have hzt : Txt z := by rw [hz]; exact HT.out.drop a
        have hzl : z.length = b.size - a := by rw [hz, List.length_drop, nums_length]
        have HALL := hid (curT_all (phrases_short HF.out) hzt hdr)
        have hsmall := bS_small hl100 (phrases_short HF.out) hzt hdr
        obtain ⟨m, hm⟩ : ∃ m, m = (bS L z).length := ⟨_, rfl⟩
        have hm41 : m ≤ 41 := by rw [hm]; exact bS_few z
        have HM := hid hm
        rw [← hm] at HCH HALL
        rw [hzl] at hsmall
        have HSM := hid hsmall
        obtain ⟨F1, hF1⟩ : ∃ F1 : Nat → Nat, F1 = fun k => (bC L ((nums b).drop k)).1 := ⟨_, rfl⟩
        obtain ⟨F2, hF2⟩ : ∃ F2 : Nat → Nat, F2 = fun k => (bC L ((nums b).drop k)).2 := ⟨_, rfl⟩
        have HF1 := hid hF1
        have HF2 := hid hF2
        have HW1 : Hid (((wr.setCell ⟨g1, a, none⟩ (.int .i64 1099511627776)).setCell ⟨g2, a, none⟩ (.int .i64 0)).rowIs g1 3 N (behT F1 a (curT L z 0).1)) := HQ3.out.congr (fun k _ => by
          unfold behT
          rw [hF1]
          by_cases e : k = a
          · rw [if_pos e, if_pos e]; rfl
          · rw [if_neg e, if_neg e]
            by_cases e2 : a < k
            · rw [if_pos (by omega), if_pos e2]
            · rw [if_neg (by omega), if_neg e2]; rfl)
        have HW2 : Hid (((wr.setCell ⟨g1, a, none⟩ (.int .i64 1099511627776)).setCell ⟨g2, a, none⟩ (.int .i64 0)).rowIs g2 3 N (behT F2 a (curT L z 0).2)) := HQ4.out.congr (fun k _ => by
          unfold behT
          rw [hF2]
          by_cases e : k = a
          · rw [if_pos e, if_pos e]; rfl
          · rw [if_neg e, if_neg e]
            by_cases e2 : a < k
            · rw [if_pos (by omega), if_pos e2]
            · rw [if_neg (by omega), if_neg e2]; rfl)
        clear hz hm hsmall hF1 hF2 f1 f2 c1 c2 HQ1 HQ2 HQ3 HQ4 hR1 hR2 hB hzt hzl hdr
        generalize (wr.setCell ⟨g1, a, none⟩ (.int .i64 1099511627776)).setCell ⟨g2, a, none⟩ (.int .i64 0) = w5 at HB3 HW1 HW2 HCH ⊢
        go_wp2_with (go_at_call 30; refine (HCH.out).mono ?_; rintro e w6 ⟨v6, rfl, ho6, hb6⟩; obtain ⟨a6, c6, rfl⟩ := ownsRow_slice ho6; have HO6 := hid ho6; have HX1 := hid (HW1.out.of_block (hb6.block g1 HW1.out.lt)); have HX2 := hid (HW2.out.of_block (hb6.block g2 HW2.out.lt)); have HL5 : Hid (g1 < w5.heap.size ∧ g2 < w5.heap.size) := ⟨HW1.out.lt, HW2.out.lt⟩; have HB6 := hid (below_more HB3.out hb6); clear ho6 hb6)
        clear HCH HW1 HW2 HB3
        go_loopw [39] (fun vi wq => ∃ q : Nat, vi = .int .i64 q ∧ q ≤ m ∧ Hid (wq.rowIs g1 3 N (behT F1 a (curT L z q).1)) ∧ Hid (wq.rowIs g2 3 N (behT F2 a (curT L z q).2)) ∧ Hid (wq.ownsRow w5.heap.size 68 2 (.slice a6 m c6) m (hcells (asP (bS L z)))) ∧ Hid (Below w.heap.size w wq)) (fun vi _ => m - (intOf vi).toNat)
        case atStart => exact ⟨0, rfl, by omega, HX1.out, HX2.out, HO6.out, HB6.out⟩
        case round =>
          clear HX1 HX2 HO6 HB6
          obtain ⟨q, rfl, hq, hX1, hX2, hO, hB⟩ := hrel
          by_cases hqm : q < m
          · have hqS : q < (bS L z).length := by rw [← HM.out]; exact hqm
            have hqA : q < (asP (bS L z)).length := by rw [asP_length]; exact hqS
            obtain ⟨g6, k6, e6, _, _⟩ := hO.out.form (by omega)
            simp only [Value.slice.injEq] at e6
            obtain ⟨rfl, _, rfl⟩ := e6
            have cj := hO.out.cellAt (q * 2) (by omega)
            have cj2 := hO.out.cellAt (q * 2 + 1) (by omega)
            rw [(hcells_at _ q hqA).1, asP_at _ q hqS hqA] at cj
            rw [(hcells_at _ q hqA).2, asP_at _ q hqS hqA] at cj2
            have hxq : (decide ((0 : Int) ≤ (q : Int) ∧ (q : Int) < (m : Int))) = true := decide_eq_true ⟨by omega, by omega⟩
            have hsm := HSM.out _ (List.getElem_mem hqS)
            have HNX := hid (curT_next L z q hqS)
            obtain ⟨⟨t, n⟩, htn⟩ : ∃ d, d = (bS L z)[q]'hqS := ⟨_, rfl⟩
            rw [← htn] at cj cj2 hsm HNX
            dsimp only at cj cj2 hsm HNX
            obtain ⟨hs1, hs2, hs3⟩ := hsm
            obtain ⟨k, hk⟩ : ∃ k, k = a + n := ⟨_, rfl⟩
            have hsum : (a : Int) + (n : Int) = (k : Int) := by omega
            have hkN : k < N := by have := HN.out; omega
            have hxk : (decide ((0 : Int) ≤ (k : Int) ∧ (k : Int) < (N : Int))) = true := decide_eq_true ⟨by omega, by omega⟩
            have hdk : z.drop n = (nums b).drop k := by rw [HZ.out, List.drop_drop, hk]
            have hsmk := bC_small (phrases_short HF.out) (HT.out.drop k)
            have hsmk2 := (HT.out.drop k).2
            obtain ⟨⟨p2, q2⟩, hpq⟩ : ∃ d, d = bC L ((nums b).drop k) := ⟨_, rfl⟩
            rw [hdk, ← hpq] at HNX
            rw [← hpq] at hsmk
            dsimp only at hsmk
            have e1 : F1 k = p2 := by rw [HF1.out]; show (bC L ((nums b).drop k)).1 = _; rw [← hpq]
            have e2 : F2 k = q2 := by rw [HF2.out]; show (bC L ((nums b).drop k)).2 = _; rw [← hpq]
            have HPK : Hid (a < k) := by show _ < _; omega
            have hbt := bt_le (t : Int)
            have HBT := fun W => hid (refBits_any (t : Int) W)
            obtain ⟨s, hs⟩ : ∃ s, s = bt (t : Int) := ⟨_, rfl⟩
            rw [← hs] at hbt
            simp only [← hs] at HBT
            have hsB : bB t = s := by rw [hs]; rfl
            rw [hsB] at HNX
            have HNX2 : Hid (curT L z (q + 1) = if lt2 (1 + p2, s + q2) (curT L z q) then (1 + p2, s + q2) else curT L z q) := HNX.out
            obtain ⟨⟨x, y⟩, hxy⟩ : ∃ d, d = curT L z q := ⟨_, rfl⟩
            rw [← hxy] at HNX2 hX1 hX2
            dsimp only at hX1 hX2
            obtain ⟨T, hT⟩ : ∃ T, T = 1 + p2 := ⟨_, rfl⟩
            obtain ⟨U, hU⟩ : ∃ U, U = s + q2 := ⟨_, rfl⟩
            rw [← hT, ← hU] at HNX2
            have hsT : (1 : Int) + (p2 : Int) = (T : Int) := by omega
            have hsU : (s : Int) + (q2 : Int) = (U : Int) := by omega
            have hT1 : T ≤ 2000 := by omega
            have hU1 : U ≤ 100000 := by omega
            have hwk := Go.IntWalk.i64_in (k : Int) (by omega)
            have hwT := Go.IntWalk.i64_in (T : Int) (by omega)
            have hwU := Go.IntWalk.i64_in (U : Int) (by omega)
            have HE1 := hid e1
            have HE2 := hid e2
            clear htn hk hdk hpq e1 e2 hs hsB hxy hT hU HNX hqA hqS
            go_upto_region 9 with fail
            have hwa : Below wr.heap.size wr (wr.alloc (.cells #[.int .i64 (t : Int), .int .i64 (n : Int)] 68)) := (Below.refl _ _).alloc (Nat.le_refl _) _
            have HY1 := hid (hX1.out.of_block (hwa.block g1 hX1.out.lt))
            have HY2 := hid (hX2.out.of_block (hwa.block g2 hX2.out.lt))
            have HYO := hid (ownsRow_below hO.out hwa)
            have HYB := hid (below_more hB.out hwa)
            have HYS : Hid ((wr.alloc (.cells #[.int .i64 (t : Int), .int .i64 (n : Int)] 68)).heap[wr.heap.size]? = some (.cells #[.int .i64 (t : Int), .int .i64 (n : Int)] 68 (0, 0))) := heap_alloc_new wr _
            clear hX1 hX2 hO hB hwa cj cj2
            generalize wr.alloc (.cells #[.int .i64 (t : Int), .int .i64 (n : Int)] 68) = w8 at HY1 HY2 HYO HYB HYS ⊢
            go_cut [11, 12, 39] from 39 to 92 (fun u11 u12 u39 wc => u11 = .int .i64 (T : Int) ∧ u12 = .int .i64 (U : Int) ∧ u39 = .int .i64 (q : Int) ∧ Hid (Below w8.heap.size w8 wc))
            case first =>
              obtain ⟨c0, c1⟩ := hit_cells2 HYS.out
              have c2 := HY1.out.cell hkN
              have c3 := HY2.out.cell hkN
              rw [behT_past _ _ _ _ HPK.out, HE1.out] at c2
              rw [behT_past _ _ _ _ HPK.out, HE2.out] at c3
              have hwd : Below w8.heap.size w8 w8.drew := (Below.refl _ _).drew
              have HBD := HBT w8.drew
              have HK0 := hid c0
              have HK1 := hid c1
              have HK2 := hid c2
              have HK3 := hid c3
              go_region_held (fun w' => w'.cell? ⟨wr.heap.size, 0, none⟩ = some (.int .i64 (t : Int)) ∧ w'.cell? ⟨wr.heap.size, 1, none⟩ = some (.int .i64 (n : Int)) ∧ w'.cell? ⟨g1, k, none⟩ = some (.int .i64 (p2 : Int)) ∧ w'.cell? ⟨g2, k, none⟩ = some (.int .i64 (q2 : Int)) ∧ Below w8.heap.size w8 w')
                (first | exact ⟨d0, d1, d2, d3, HB9.out⟩ | exact ⟨HK0.out, HK1.out, HK2.out, HK3.out, (Below.refl _ _).drew⟩)
                (first | (go_at_call 31; refine (HBD.out).mono ?_; rintro e w9 ⟨rfl, hb9⟩; have hb99 := hwd.trans (hb9.mono (Nat.le_refl _)); have HB9 := hid hb99; have d0 := keeps hb99 _ _ HK0.out; have d1 := keeps hb99 _ _ HK1.out; have d2 := keeps hb99 _ _ HK2.out; have d3 := keeps hb99 _ _ HK3.out; clear hb9 hb99))
              all_goals go_wp2
              all_goals go_meet
              all_goals exact ⟨rfl, rfl, rfl, HB9.out⟩
            case rest =>
              obtain ⟨rfl, rfl, rfl, HBC⟩ := hcut
              have HZ1 := hid (HY1.out.of_block (HBC.out.block g1 HY1.out.lt))
              have HZ2 := hid (HY2.out.of_block (HBC.out.block g2 HY2.out.lt))
              have HZO := hid (ownsRow_below HYO.out HBC.out)
              have HZB := hid (below_more HYB.out HBC.out)
              clear HY1 HY2 HYO HYB HYS HBC
              have k1 := HZ1.out.cell haN
              have k3 := HZ2.out.cell haN
              have f1 := HZ1.out.frozen a
              rw [behT_at] at k1 k3
              by_cases h1 : T < x
              · have hlt : lt2 (T, U) (x, y) := .inl h1
                have HN2 : Hid (curT L z (q + 1) = (T, U)) := by show _ = _; rw [HNX2.out, if_pos hlt]
                have HR1 := hid ((HZ1.out.set a (.int .i64 (T : Int))).setOther (a := ⟨g2, a, none⟩) HG.out.1 (.int .i64 (U : Int)))
                have HR2a := hid (HZ2.out.setOther (a := ⟨g1, a, none⟩) (Ne.symm HG.out.1) (.int .i64 (T : Int)))
                have HR2 := hid (HR2a.out.set a (.int .i64 (U : Int)))
                have f2 := HR2a.out.frozen a
                have k2 := HR2a.out.cell haN
                rw [behT_at] at k2
                have HB4 : Hid (Below w.heap.size w ((wc.setCell ⟨g1, a, none⟩ (.int .i64 (T : Int))).setCell ⟨g2, a, none⟩ (.int .i64 (U : Int)))) := (HZB.out.setCell (p := ⟨g1, a, none⟩) HG.out.2.1 _).setCell (p := ⟨g2, a, none⟩) HG.out.2.2 _
                have HO4 := hid (ownsRow_same (w' := (wc.setCell ⟨g1, a, none⟩ (.int .i64 (T : Int))).setCell ⟨g2, a, none⟩ (.int .i64 (U : Int))) HZO.out (fun g hg => by
                  have h1 := (HZO.out.lt g hg).1
                  have h2 := HL5.out
                  rw [Below.heap_setCell _ _ _ _ (by show g ≠ g2; omega), Below.heap_setCell _ _ _ _ (by show g ≠ g1; omega)]))
                have d1 : decide ((T : Int) < (x : Int)) = true := decide_eq_true (by omega)
                go_wp2
                go_roundw
                case rel =>
                  refine ⟨q + 1, by go_num, by omega, HR1.out.congr (fun k hk => ?_), HR2.out.congr (fun k hk => ?_), HO4.out, HB4.out⟩
                  all_goals
                    rw [HN2.out]
                    by_cases e : k = a
                    · subst e; first | (rw [if_pos rfl, behT_at]; done) | (rw [if_pos rfl, behT_at, behT_at])
                    · first | (rw [if_neg e]; done) | (rw [if_neg e]; unfold behT; rw [if_neg e, if_neg e])
                case measure => simp [intOf] <;> omega
              · by_cases h2 : T = x
                · obtain rfl : x = T := h2.symm
                  clear h2 h1
                  by_cases h3 : U < y
                  · have hlt : lt2 (x, U) (x, y) := .inr ⟨rfl, h3⟩
                    have HN2 : Hid (curT L z (q + 1) = (x, U)) := by show _ = _; rw [HNX2.out, if_pos hlt]
                    have HR1 := hid ((HZ1.out.set a (.int .i64 (x : Int))).setOther (a := ⟨g2, a, none⟩) HG.out.1 (.int .i64 (U : Int)))
                    have HR2a := hid (HZ2.out.setOther (a := ⟨g1, a, none⟩) (Ne.symm HG.out.1) (.int .i64 (x : Int)))
                    have HR2 := hid (HR2a.out.set a (.int .i64 (U : Int)))
                    have f2 := HR2a.out.frozen a
                    have k2 := HR2a.out.cell haN
                    rw [behT_at] at k2
                    have HB4 : Hid (Below w.heap.size w ((wc.setCell ⟨g1, a, none⟩ (.int .i64 (x : Int))).setCell ⟨g2, a, none⟩ (.int .i64 (U : Int)))) := (HZB.out.setCell (p := ⟨g1, a, none⟩) HG.out.2.1 _).setCell (p := ⟨g2, a, none⟩) HG.out.2.2 _
                    have HO4 := hid (ownsRow_same (w' := (wc.setCell ⟨g1, a, none⟩ (.int .i64 (x : Int))).setCell ⟨g2, a, none⟩ (.int .i64 (U : Int))) HZO.out (fun g hg => by
                      have h1 := (HZO.out.lt g hg).1
                      have h2 := HL5.out
                      rw [Below.heap_setCell _ _ _ _ (by show g ≠ g2; omega), Below.heap_setCell _ _ _ _ (by show g ≠ g1; omega)]))
                    have d1 : decide ((x : Int) < (x : Int)) = false := decide_eq_false (by omega)
                    have d2 : ((x : Int) == (x : Int)) = true := by simp
                    have d3 : decide ((U : Int) < (y : Int)) = true := decide_eq_true (by omega)
                    go_wp2
                    go_roundw
                    case rel =>
                      refine ⟨q + 1, by go_num, by omega, HR1.out.congr (fun k hk => ?_), HR2.out.congr (fun k hk => ?_), HO4.out, HB4.out⟩
                      all_goals
                        rw [HN2.out]
                        by_cases e : k = a
                        · subst e; first | (rw [if_pos rfl, behT_at]; done) | (rw [if_pos rfl, behT_at, behT_at])
                        · first | (rw [if_neg e]; done) | (rw [if_neg e]; unfold behT; rw [if_neg e, if_neg e])
                    case measure => simp [intOf] <;> omega
                  · have hlt : ¬ lt2 (x, U) (x, y) := fun h => by have h' : x < x ∨ x = x ∧ U < y := h; omega
                    have HN2 : Hid (curT L z (q + 1) = (x, y)) := by show _ = _; rw [HNX2.out, if_neg hlt]
                    have d1 : decide ((x : Int) < (x : Int)) = false := decide_eq_false (by omega)
                    have d2 : ((x : Int) == (x : Int)) = true := by simp
                    have d3 : decide ((U : Int) < (y : Int)) = false := decide_eq_false (by omega)
                    go_wp2
                    go_roundw
                    case rel => exact ⟨q + 1, by go_num, by omega, by rw [HN2.out]; exact HZ1.out, by rw [HN2.out]; exact HZ2.out, HZO.out, HZB.out⟩
                    case measure => simp [intOf] <;> omega
                · have hlt : ¬ lt2 (T, U) (x, y) := fun h => by have h' : T < x ∨ T = x ∧ U < y := h; omega
                  have HN2 : Hid (curT L z (q + 1) = (x, y)) := by show _ = _; rw [HNX2.out, if_neg hlt]
                  have d1 : decide ((T : Int) < (x : Int)) = false := decide_eq_false (by omega)
                  have d2 : ((T : Int) == (x : Int)) = false := by rw [beq_eq_false_iff_ne]; omega
                  go_wp2
                  go_roundw
                  case rel => exact ⟨q + 1, by go_num, by omega, by rw [HN2.out]; exact HZ1.out, by rw [HN2.out]; exact HZ2.out, HZO.out, HZB.out⟩
                  case measure => simp [intOf] <;> omega
          · obtain rfl : q = m := by omega
            go_wp2
            go_roundw
            case rel =>
              refine ⟨a, rfl, by omega, hX1.out.congr (fun k hk => ?_), hX2.out.congr (fun k hk => ?_), hB.out⟩
              all_goals
                rw [HALL.out]
                unfold behT
                first | rw [HF1.out] | rw [HF2.out]
                by_cases e : k = a
                · subst e; rw [if_pos rfl, if_pos (Nat.le_refl _), HZ.out]
                · rw [if_neg e]
                  by_cases e2 : a < k
                  · rw [if_pos e2, if_pos (by omega)]
                  · rw [if_neg e2, if_neg (by omega)]; rfl
            case measure => simp [intOf]
end Go.Proofs.YtdplflcaanmmiaaGreat

namespace Go.Proofs.YtdplflcaanmmiaaGreat
open Go.ChangeShapes Go.WideShapes Go.ChangeAt Go.RowKit

/-- append of integers: where the new one lies. -/
theorem wpList_append_intsO {ops : Array Oper} {rest : List Oper} {o : Oper} {a : Act} {w : World} {Q : Exit → Act → World → Prop} (hgd : o.guard = none) (s x : Operand)
    (ho : o.op = .call { callee := .builtin .append, args := #[s, x], argTypes := #[27, 27] })
    (base : Nat) (v : Value) (xs : List Int) (hs : a.eval s = v) (hown : w.ownsRow base 3 1 v xs.length (nats xs)) (u : Value) (ys : List Int) (hx : a.eval x = u) (hu : Reads w u (nats ys)) (hfew : xs.length + ys.length ≤ 1000000) (hbase : base ≤ w.heap.size)
    (h : ∀ v' w', w'.ownsRow base 3 1 v' (xs ++ ys).length (nats (xs ++ ys)) → w.grownBy w' v.ownBlock → (v'.ownBlock = v.ownBlock ∨ v'.ownBlock = some w.heap.size) → wpList Tryz.prog ops Q rest (a.put o.dst v') w') : wpList Tryz.prog ops Q (o :: rest) a w := by
  obtain ⟨i0, hi0, hz0, hz1, hz2⟩ := info_parts Tryz.infoInt
  have hny := nats_length ys
  obtain ⟨v', w', hr, h2, h3, h4, _⟩ := run_append_reads (P := Tryz.prog) w 27 o.type base 3 i0 (.int .i64 0) 8 Tryz.underlying27 hi0 hz0 hz1 hz2 rfl v xs.length (nats xs) hown u (nats ys) hu (nats_one ys) (by rw [hny]; unfold maxLen; omega) (by rw [hny]; omega) hbase
  rw [nats_append, hny, ← List.length_append] at h2
  refine wpList_plain hgd fun K hK => ?_
  unfold Oper.wp execOp
  simp only [ho, resolve, invoke, builtin, Sem.run_bind, Sem.run_pure, Result.andThen_ok, List.map_toArray, List.map_cons, List.map_nil, hs, hx, hr]
  exact hK _ _ (h v' w' h2 h3 h4)

/-- Rows of elements of two types lie in two blocks. -/
theorem rows_apart {w : World} {B B' s s' n m : Nat} {v u : Value} {xs ys : List Value} {e e' : TypeId} (h : w.ownsRow B e s v n xs) (h' : w.ownsRow B' e' s' u m ys) (hne : e ≠ e') : ∀ g, u.ownBlock = some g → some g ≠ v.ownBlock := by
  intro g hg hv
  obtain ⟨_, c1, h1⟩ := ownsRow_block h g hv.symm
  obtain ⟨_, c2, h2⟩ := ownsRow_block h' g hg
  rw [h1] at h2
  injection h2 with h2
  injection h2 with _ h3
  exact hne h3

/-- Does a token keep the least cost? -/
def keeps2 (L : List ByteArray) (z : List Nat) (h : Nat × Nat) : Bool := decide (add2 (bB h.1) (bC L (z.drop h.2)) = bC L z)

theorem keep_first {L : List ByteArray} {z : List Nat} (i : Nat) (hi : i < (bS L z).length) (hk : keeps2 L z ((bS L z)[i]'hi) = true) (hno : ∀ j (hj : j < i), keeps2 L z ((bS L z)[j]'(Nat.lt_trans hj hi)) = false) : bK L z = (bS L z)[i]'hi := by
  have h : (bS L z).find? (fun h => decide (add2 (bB h.1) (bC L (z.drop h.2)) = bC L z)) = some ((bS L z)[i]'hi) := by
    rw [List.find?_eq_some_iff_getElem]
    refine ⟨hk, i, hi, rfl, fun j hj => ?_⟩
    have := hno j hj
    unfold keeps2 at this
    rw [this]
    rfl
  show ((chT (L.map nums) 40 z).find? _).getD _ = _
  have h2 : (chT (L.map nums) 40 z).find? (fun h => decide (add2 (bB h.1) (costT (L.map nums) 40 bB bigN (z.drop h.2)) = costT (L.map nums) 40 bB bigN z)) = some ((bS L z)[i]'hi) := h
  rw [h2]
  rfl

theorem keep_some {L : List ByteArray} (hP : ∀ s ∈ L.map nums, s.length ≤ 40) {z : List Nat} (hz : Txt z) (hne : z ≠ []) (hno : ∀ j (hj : j < (bS L z).length), keeps2 L z ((bS L z)[j]'hj) = false) : False := by
  obtain ⟨h, hh, e⟩ := costT_kept _ 40 hP bB bigN z hne hz.1 hz.big
  obtain ⟨j, hj, e2⟩ := List.mem_iff_getElem.1 hh
  have h1 := hno j hj
  unfold keeps2 at h1
  have h3 : (bS L z)[j]'hj = h := e2
  rw [h3] at h1
  exact of_decide_eq_false h1 e.symm

set_option maxRecDepth 20000 in
set_option maxHeartbeats 8000000 in
theorem refBest_any {w : World} {v : Value} {L : List ByteArray} (hv : Reads w v (strs L)) (hL : Fine L) (b : ByteArray) (hb : b.size ≤ 1000) (n : Nat) (hn : 1 ≤ n) (hn2 : n ≤ 1024) :
    Calls Tryz.prog 14 #[v, .string b, .int .i64 (n : Int)] w fun e w' => ∃ v', e = .returned v' ∧ w'.ownsRow w.heap.size 3 1 v' (ints (bW L n (nums b))).length (nats (ints (bW L n (nums b)))) ∧ Below w.heap.size w w' := by
  have HV := hid hv
  have HF := hid hL
  have hl100 : L.length ≤ 100 := hL.1
  have HT := hid (txt_nums b hb)
  clear hv hL
  go_enter Tryz.func14, Tryz.ntmps14
  go_wp2
  go_loopw [7, 8] (fun u vi wr => ∃ (a : Nat) (ts : List Nat), vi = .int .i64 a ∧ a ≤ b.size + n ∧ ts.length ≤ min a b.size ∧ Hid (wr.ownsRow w.heap.size 3 1 u (ints ts).length (nats (ints ts))) ∧ Hid (ts ++ bW L n ((nums b).drop a) = bW L n (nums b)) ∧ Hid (Below w.heap.size w wr)) (fun _ vi _ => b.size - (intOf vi).toNat)
  case atStart => exact ⟨0, [], rfl, by omega, by simp, World.ownsRow_nil _ _ _ _, by show _ = _; simp, Below.refl _ _⟩
  case round =>
    obtain ⟨a, ts, rfl, ha, hts, hown, heq, hB⟩ := hrel
    by_cases hin : a < b.size
    · have hd3 : decide ((a : Int) < (b.size : Int)) = true := decide_eq_true (by omega)
      have hne : (nums b).drop a ≠ [] := by
        intro e
        have := congrArg List.length e
        rw [List.length_drop, nums_length] at this
        simp at this
        omega
      obtain ⟨k, hk⟩ : ∃ k, k = min n (b.size - a) := ⟨_, rfl⟩
      have he := heq.out
      rw [bW_cons L n (by omega) _ hne, List.drop_drop] at he
      obtain ⟨j, hj⟩ : ∃ j, j = a + k := ⟨_, rfl⟩
      obtain ⟨e0, he0⟩ : ∃ e0, e0 = a + n := ⟨_, rfl⟩
      have hsum : (a : Int) + (n : Int) = (e0 : Int) := by omega
      have hwe := Go.IntWalk.i64_in (e0 : Int) (by omega)
      have hmn : min (e0 : Int) (b.size : Int) = (j : Int) := by omega
      have hsl := fun W => slice_amid b a j (by omega) (by omega) W
      obtain ⟨s, hs⟩ : ∃ s, s = b.extract a j := ⟨_, rfl⟩
      have hns : nums s = ((nums b).drop a).take n := by
        rw [hs, hj, nums_amid]
        by_cases hc : n ≤ b.size - a
        · rw [hk, Nat.min_eq_left hc]
        · rw [List.take_of_length_le (by rw [List.length_drop, nums_length, hk]; omega), List.take_of_length_le (by rw [List.length_drop, nums_length]; omega)]
      have hss : s.size = k := by
        rw [← nums_length, hns, List.length_take, List.length_drop, nums_length, hk]
      rw [← hs] at hsl
      rw [← hns] at he
      have HNS := hid hns
      have hs1000 : s.size ≤ 1000 := by omega
      have HTS := hid (txt_nums s hs1000)
      obtain ⟨x, hx⟩ : ∃ x, x = nums s := ⟨_, rfl⟩
      rw [← hx] at he HTS
      have hxl : x.length = s.size := by rw [hx, nums_length]
      have HXL := hid hxl
      have HX := hid hx
      have HE := hid he
      have HCO := hid (refCosts_any (HV.out.below hB.out) HF.out s hs1000)
      rw [← hx] at HCO
      obtain ⟨N, hN⟩ : ∃ N, N = s.size + 1 := ⟨_, rfl⟩
      rw [← hN] at HCO
      have HN := hid hN
      have hN1 : N ≤ 1001 := by omega
      have HK : Hid (k = min n (b.size - a)) := hk
      have HSS := hid hss
      have HE0 := hid he0
      have hak : min a b.size + s.size ≤ min (a + n) b.size := by omega
      have hown0 := hown.out
      clear hk he heq hne hj he0 hs hns hss hx hxl hN
      go_wp2_with (go_at_call 11; refine (HCO.out).mono ?_; rintro e w2 ⟨g1, g2, rfl, hg1, hg2, hr1, hr2, hb2⟩; have HA : Hid (∀ g, Value.ownBlock _ = some g → g ≠ g1 ∧ g ≠ g2) := (fun g hg => by have := (hown0.lt g hg).2; omega); have HR1 := hid hr1; have HR2 := hid hr2; have HO2 := hid (ownsRow_below hown0 hb2); have HB2 := hid (below_more hB.out hb2); clear hg1 hg2 hr1 hr2 hb2)
      clear HCO hown0 hown hB
      go_loopw [7, 12] (fun u vi wq => ∃ (c : Nat) (us : List Nat), vi = .int .i64 c ∧ c ≤ s.size ∧ us.length ≤ c ∧ Hid (wq.ownsRow w.heap.size 3 1 u (ints (ts ++ us)).length (nats (ints (ts ++ us)))) ∧ Hid (us ++ bA L (x.drop c) = bA L x) ∧ Hid (wq.rowIs g1 3 N (fun k => .int .i64 ((bC L (x.drop k)).1 : Int))) ∧ Hid (wq.rowIs g2 3 N (fun k => .int .i64 ((bC L (x.drop k)).2 : Int))) ∧ Hid (∀ g, Value.ownBlock u = some g → g ≠ g1 ∧ g ≠ g2) ∧ Hid (Below w.heap.size w wq)) (fun _ vi _ => s.size - (intOf vi).toNat)
      case atStart => exact ⟨0, [], rfl, by omega, by simp, by rw [List.append_nil]; exact HO2.out, by show _ = _; simp, HR1.out, HR2.out, HA.out, HB2.out⟩
      case round =>
        clear HR1 HR2 HA HO2 HB2
        obtain ⟨c, us, rfl, hc, hus, hown, heq, hR1, hR2, hA, hB⟩ := hrel
        obtain ⟨au, cu, rfl⟩ := ownsRow_slice hown.out
        by_cases hcs : c < s.size
        · have hd4 : decide ((c : Int) < (s.size : Int)) = true := decide_eq_true (by omega)
          obtain ⟨z, hz⟩ : ∃ z, z = x.drop c := ⟨_, rfl⟩
          have hzl : z.length = s.size - c := by rw [hz, List.length_drop, HXL.out]
          have hzt : Txt z := by rw [hz]; exact HTS.out.drop c
          have hzne : z ≠ [] := by intro e; rw [e] at hzl; simp at hzl; omega
          have HCH := hid (choices_any (HV.out.below hB.out) HF.out s hs1000 c hcs)
          rw [← HX.out, ← hz] at HCH
          have hsmall := bS_small hl100 (phrases_short HF.out) hzt hzne
          rw [hzl] at hsmall
          obtain ⟨m, hm⟩ : ∃ m, m = (bS L z).length := ⟨_, rfl⟩
          have hm41 : m ≤ 41 := by rw [hm]; exact bS_few z
          rw [← hm] at HCH
          have HM := hid hm
          have HSM := hid hsmall
          have he := heq.out
          rw [← hz, bA_cons (phrases_short HF.out) hzt hzne, hz, List.drop_drop, ← hz] at he
          have HBA := hid he
          have HZT := hid hzt
          have HZN : Hid (z ≠ []) := hzne
          have HZ := hid hz
          have hcN : c < N := by have := HN.out; omega
          have hxc : (decide ((0 : Int) ≤ (c : Int) ∧ (c : Int) < (N : Int))) = true := decide_eq_true ⟨by omega, by omega⟩
          have hwc0 := Go.IntWalk.i64_in (c : Int) (by omega)
          have hbz := bC_small (phrases_short HF.out) hzt
          rw [hzl] at hbz
          obtain ⟨⟨X, Y⟩, hXY⟩ : ∃ d, d = bC L z := ⟨_, rfl⟩
          rw [← hXY] at hbz
          have HXY := hid hXY
          dsimp only at hbz
          clear hz hzl hzt hzne hsmall hm he heq hXY
          go_wp2_with (go_at_call 30; refine (HCH.out).mono ?_; rintro e w4 ⟨v4, rfl, ho4, hb4⟩; obtain ⟨a4, c4, rfl⟩ := ownsRow_slice ho4; have HO4 := hid ho4; have HR1 := hid (hR1.out.of_block (hb4.block g1 hR1.out.lt)); have HR2 := hid (hR2.out.of_block (hb4.block g2 hR2.out.lt)); have HOW := hid (ownsRow_below hown.out hb4); have HA := hid hA.out; have HB4 := hid (below_more hB.out hb4); have hz4 := HB4.out.size; clear ho4 hb4)
          clear HCH hown hR1 hR2 hB hA
          go_loopw [7, 12, 14] (fun u uc vi wq => u = .slice au (ints (ts ++ us)).length cu ∧ uc = .int .i64 (c : Int) ∧ ∃ i : Nat, vi = .int .i64 i ∧ i ≤ m ∧ Hid (∀ j (hj : j < i) (hjl : j < (bS L z).length), keeps2 L z ((bS L z)[j]'hjl) = false) ∧ Hid (Below w4.heap.size w4 wq)) (fun _ _ vi _ => m - (intOf vi).toNat)
          case atStart => exact ⟨rfl, rfl, 0, rfl, by omega, fun j hj => by omega, Below.refl _ _⟩
          case round =>
            obtain ⟨rfl, rfl, i, rfl, hi, hno, hbq⟩ := hrel
            by_cases him : i < m
            · have hd5 : decide ((i : Int) < (m : Int)) = true := decide_eq_true (by omega)
              have hiS : i < (bS L z).length := by rw [← HM.out]; exact him
              have hiA : i < (asP (bS L z)).length := by rw [asP_length]; exact hiS
              obtain ⟨g6, k6, e6, _, _⟩ := HO4.out.form (by omega)
              simp only [Value.slice.injEq] at e6
              obtain ⟨rfl, _, rfl⟩ := e6
              have hrow := ownsRow_below HO4.out hbq.out
              have cj := hrow.cellAt (i * 2) (by omega)
              have cj2 := hrow.cellAt (i * 2 + 1) (by omega)
              rw [(hcells_at _ i hiA).1, asP_at _ i hiS hiA] at cj
              rw [(hcells_at _ i hiA).2, asP_at _ i hiS hiA] at cj2
              have hxi : (decide ((0 : Int) ≤ (i : Int) ∧ (i : Int) < (m : Int))) = true := decide_eq_true ⟨by omega, by omega⟩
              have hsm := HSM.out _ (List.getElem_mem hiS)
              obtain ⟨⟨t, d⟩, htn⟩ : ∃ h, h = (bS L z)[i]'hiS := ⟨_, rfl⟩
              have HTN : Hid ((bS L z)[i]'hiS = (t, d)) := htn.symm
              rw [← htn] at cj cj2 hsm
              dsimp only at cj cj2 hsm
              obtain ⟨hs1, hs2, hs3⟩ := hsm
              obtain ⟨k2, hk2⟩ : ∃ k2, k2 = c + d := ⟨_, rfl⟩
              have hsum2 : (c : Int) + (d : Int) = (k2 : Int) := by omega
              have hkN : k2 < N := by have := HN.out; omega
              have hxk : (decide ((0 : Int) ≤ (k2 : Int) ∧ (k2 : Int) < (N : Int))) = true := decide_eq_true ⟨by omega, by omega⟩
              have hdk : z.drop d = x.drop k2 := by rw [HZ.out, List.drop_drop, hk2]
              have hsmk := bC_small (phrases_short HF.out) (HTS.out.drop k2)
              have hsmk2 := (HTS.out.drop k2).2
              have c1 := (HR1.out.of_block (hbq.out.block g1 HR1.out.lt)).cell hkN
              have c2 := (HR2.out.of_block (hbq.out.block g2 HR2.out.lt)).cell hkN
              have c3 := (HR1.out.of_block (hbq.out.block g1 HR1.out.lt)).cell hcN
              have c5 := (HR2.out.of_block (hbq.out.block g2 HR2.out.lt)).cell hcN
              rw [← HZ.out, ← HXY.out] at c3 c5
              obtain ⟨⟨p2, q2⟩, hpq⟩ : ∃ h, h = bC L (x.drop k2) := ⟨_, rfl⟩
              rw [← hpq] at hsmk c1 c2
              dsimp only at hsmk c1 c2 c3 c5
              have hbt := bt_le (t : Int)
              have HBT := fun W => hid (refBits_any (t : Int) W)
              obtain ⟨bs, hbs⟩ : ∃ bs, bs = bt (t : Int) := ⟨_, rfl⟩
              rw [← hbs] at hbt
              simp only [← hbs] at HBT
              have hsB : bB t = bs := by rw [hbs]; rfl
              obtain ⟨T, hT⟩ : ∃ T, T = 1 + p2 := ⟨_, rfl⟩
              obtain ⟨U, hU⟩ : ∃ U, U = bs + q2 := ⟨_, rfl⟩
              have hkp : keeps2 L z (t, d) = decide (T = X ∧ U = Y) := by
                unfold keeps2
                rw [hdk, ← hpq, hsB, ← HXY.out]
                refine decide_eq_decide.2 ?_
                unfold add2
                rw [Prod.mk.injEq, hT, hU]
              have HKP := hid hkp
              have hsT : (1 : Int) + (p2 : Int) = (T : Int) := by omega
              have hsU : (bs : Int) + (q2 : Int) = (U : Int) := by omega
              have hT1 : T ≤ 2000 := by omega
              have hU1 : U ≤ 100000 := by omega
              have hwk := Go.IntWalk.i64_in (k2 : Int) (by omega)
              have hwT := Go.IntWalk.i64_in (T : Int) (by omega)
              have hwU := Go.IntWalk.i64_in (U : Int) (by omega)
              have HK2 := hid hk2
              clear htn hk2 hdk hpq hbs hsB hT hU hkp hiA hrow
              go_upto_region 13 with fail
              go_cut [90] from 45 to 105 (fun u wc => u = .bool (decide (T = X ∧ U = Y)) ∧ Hid (Below wr.heap.size wr wc))
              case first =>
                by_cases hTX : T = X
                · obtain rfl : X = T := hTX.symm
                  have hq : ((X : Int) == (X : Int)) = true := by simp
                  have hdd : decide (X = X ∧ U = Y) = decide (U = Y) := decide_eq_decide.2 (by simp)
                  have hq2 : ((U : Int) == (Y : Int)) = decide (U = Y) := by
                    apply Bool.eq_iff_iff.2
                    rw [beq_iff_eq, decide_eq_true_eq]
                    omega
                  have hwd : Below wr.heap.size wr wr.drew := (Below.refl _ _).drew
                  have HBD := HBT wr.drew
                  have K1 := hid cj
                  have K2 := hid cj2
                  have K3 := hid c1
                  have K4 := hid c2
                  have K5 := hid c3
                  have K6 := hid c5
                  go_region_held (fun w' => w'.cell? ⟨g6, i * 2, none⟩ = some (.int .i64 (t : Int)) ∧ w'.cell? ⟨g6, i * 2 + 1, none⟩ = some (.int .i64 (d : Int)) ∧ w'.cell? ⟨g1, k2, none⟩ = some (.int .i64 (p2 : Int)) ∧ w'.cell? ⟨g2, k2, none⟩ = some (.int .i64 (q2 : Int)) ∧ w'.cell? ⟨g1, c, none⟩ = some (.int .i64 (X : Int)) ∧ w'.cell? ⟨g2, c, none⟩ = some (.int .i64 (Y : Int)) ∧ Below wr.heap.size wr w')
                    (first | exact ⟨d1, d2, d3, d4, d5, d6, HB9.out⟩ | exact ⟨K1.out, K2.out, K3.out, K4.out, K5.out, K6.out, (Below.refl _ _).drew⟩)
                    (first | (go_at_call 31; refine (HBD.out).mono ?_; rintro e w9 ⟨rfl, hb9⟩; have hb99 := hwd.trans (hb9.mono (Nat.le_refl _)); have HB9 := hid hb99; have d1 := keeps hb99 _ _ K1.out; have d2 := keeps hb99 _ _ K2.out; have d3 := keeps hb99 _ _ K3.out; have d4 := keeps hb99 _ _ K4.out; have d5 := keeps hb99 _ _ K5.out; have d6 := keeps hb99 _ _ K6.out; clear hb9 hb99))
                  all_goals go_wp2
                  all_goals go_meet
                  all_goals exact ⟨by rw [hdd], HB9.out⟩
                · have hq : ((T : Int) == (X : Int)) = false := by rw [beq_eq_false_iff_ne]; omega
                  have hdd : decide (T = X ∧ U = Y) = false := decide_eq_false (fun h => hTX h.1)
                  go_quiet (fail)
                  go_wp2
                  go_meet
                  exact ⟨by rw [hdd], drewN_below _ _ _⟩
              case rest =>
                obtain ⟨rfl, HBC⟩ := hcut
                have cj3 := keeps HBC.out _ _ cj
                have cj4 := keeps HBC.out _ _ cj2
                have HBQ : Hid (Below w4.heap.size w4 wc) := below_more hbq.out HBC.out
                rw [← HKP.out]
                clear c1 c2 c3 c5 cj cj2 HBC hbq HBT
                by_cases hkb : keeps2 L z (t, d) = true
                · rw [hkb]
                  have hbk := keep_first i hiS (by rw [HTN.out]; exact hkb) (fun q hq => hno.out q hq _)
                  rw [HTN.out] at hbk
                  have hba := HBA.out
                  rw [hbk] at hba
                  dsimp only at hba
                  have HNA : Hid ((us ++ [t]) ++ bA L (x.drop k2) = bA L x) := by show _ = _; rw [List.append_assoc, HK2.out]; exact hba
                  have HOC := hid (ownsRow_below HOW.out HBQ.out)
                  have HRC1 := hid (HR1.out.of_block (HBQ.out.block g1 HR1.out.lt))
                  have HRC2 := hid (HR2.out.of_block (HBQ.out.block g2 HR2.out.lt))
                  have HL1 : Hid (g1 < wc.heap.size ∧ g2 < wc.heap.size) := ⟨HRC1.out.lt, HRC2.out.lt⟩
                  have HBW := hid (below_more HB4.out HBQ.out)
                  have hzc := HBW.out.size
                  have hwa : Below wc.heap.size wc (wc.alloc (.cells #[.int .i64 (t : Int)] 3)) := (Below.refl _ _).alloc (Nat.le_refl _) _
                  have HRA := hid (ownsRow_below (ownsRow_below HO4.out HBQ.out) hwa)
                  have HOA := hid (ownsRow_below HOC.out hwa)
                  have HR1a := hid (HRC1.out.of_block (hwa.block g1 HRC1.out.lt))
                  have HR2a := hid (HRC2.out.of_block (hwa.block g2 HRC2.out.lt))
                  have HLA : Hid (g1 < (wc.alloc (.cells #[.int .i64 (t : Int)] 3)).heap.size ∧ g2 < (wc.alloc (.cells #[.int .i64 (t : Int)] 3)).heap.size) := ⟨HR1a.out.lt, HR2a.out.lt⟩
                  have hiA : i < (asP (bS L z)).length := by rw [asP_length]; exact hiS
                  have HDC : Hid ((hcells (asP (bS L z)))[i * 2 + 1]? = some (.int .i64 (d : Int))) := by show _ = _; rw [(hcells_at _ i hiA).2, asP_at _ i hiS hiA, HTN.out]
                  have HZA := hid (below_more HBW.out hwa)
                  clear hbk hba hkb hwa hiA HRC1 HRC2
                  go_wp2_with (first
                    | (at_builtin; refine wpList_append_intsO rfl (.tmp 91) (.tmp 97) rfl w.heap.size _ (ints (ts ++ us)) rfl HOA.out _ [(t : Int)] rfl (reads_built _ #[.int .i64 (t : Int)] _ 1 rfl) (by rw [ints_length, List.length_append]; simp; omega) HZA.out.size ?_; intro v9 w9 hown9 hgr9 hat9; have HO9 := hid hown9; have HG9 := hid hgr9; have HT9 := hid hat9; have HB9 := hid (HZA.out.grown hgr9 HZA.out.size (fun g hg => (HOA.out.lt g hg).1)); have HRO9 := ownsRow_same HRA.out (fun g hg => hgr9.block g (HRA.out.lt g hg).2 (rows_apart HOA.out HRA.out (by decide) g hg)); have k9 := HRO9.cellAt (i * 2 + 1) (by omega); rw [HDC.out] at k9; clear hown9 hgr9 hat9 HRO9))
                  have HS1 := hid (HR1a.out.of_block (HG9.out.block g1 HLA.out.1 (fun e => (HA.out g1 e.symm).1 rfl)))
                  have HS2 := hid (HR2a.out.of_block (HG9.out.block g2 HLA.out.2 (fun e => (HA.out g2 e.symm).2 rfl)))
                  have HA9 : Hid (∀ g, Value.ownBlock v9 = some g → g ≠ g1 ∧ g ≠ g2) := fun g hg => by
                    rcases HT9.out with e | e
                    · exact HA.out g (e.symm.trans hg)
                    · rw [e] at hg
                      injection hg with hg
                      have := HLA.out
                      omega
                  have HO10 : Hid (w9.ownsRow w.heap.size 3 1 v9 (ints (ts ++ (us ++ [t]))).length (nats (ints (ts ++ (us ++ [t]))))) := by
                    have e : ints (ts ++ (us ++ [t])) = ints (ts ++ us) ++ [(t : Int)] := by simp [ints]
                    show World.ownsRow _ _ _ _ _ _ _
                    rw [e]
                    exact HO9.out
                  go_roundw
                  case rel => exact ⟨k2, us ++ [t], rfl, by have := HK2.out; omega, by rw [List.length_append, List.length_singleton]; have := HK2.out; omega, HO10.out, HNA.out, HS1.out, HS2.out, HA9.out, HB9.out⟩
                  case measure => have := HK2.out; simp [intOf]; omega
                · have hkf : keeps2 L z (t, d) = false := by simpa using hkb
                  rw [hkf]
                  go_wp2
                  go_roundw
                  case rel =>
                    refine ⟨rfl, rfl, i + 1, by go_num, by omega, fun q hq hql => ?_, HBQ.out⟩
                    by_cases e : q = i
                    · subst e; rw [HTN.out]; exact hkf
                    · exact hno.out q (by omega) hql
                  case measure => simp [intOf]; omega
            · exfalso
              refine keep_some (phrases_short HF.out) HZT.out HZN.out (fun j hj => hno.out j (by have := HM.out; omega) hj)
        · obtain rfl : c = s.size := by omega
          have he := heq.out
          rw [List.drop_eq_nil_of_le (by rw [HXL.out]; exact Nat.le_refl _), bA_nil, List.append_nil] at he
          subst he
          have HE2 := HE.out
          go_wp2
          go_roundw
          case rel => exact ⟨a + n, ts ++ bA L x, by rw [← HE0.out], by omega, by rw [List.length_append]; omega, hown.out, by show _ = _; rw [List.append_assoc]; exact HE2, hB.out⟩
          case measure => have := HE0.out; simp [intOf]; omega
    · have hd : (nums b).drop a = [] := List.drop_eq_nil_of_le (by rw [nums_length]; omega)
      have he := heq.out
      rw [hd, bW_nil, List.append_nil] at he
      subst he
      go_wp2
      go_ret
      exact ⟨_, rfl, hown.out, hB.out⟩
end Go.Proofs.YtdplflcaanmmiaaGreat
