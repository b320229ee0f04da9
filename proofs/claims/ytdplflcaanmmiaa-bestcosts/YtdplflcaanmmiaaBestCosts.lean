/-
  BestCosts: what is behind a place costs no more than one token and what is behind that; and just so much for one of them. For every list of texts, every bytes.
  No condition: whatever the input, in whatever memory; the arguments read as before.
-/
import Derived.Test.YtdplflcaanmmiaaAlive15
import Derived.BigQuiet
import Derived.Deep.CutRange
import Derived.ShutString
import Derived.ChangeOld
import Derived.SizedLaws
namespace Go.Proofs.Ytdplflcaanmmiaa
open Go.ChangeShapes Go.WideShapes Go.ChangeAt Go.RowKit
open Go.ChangeMaps (open_string shut_string)

/-- What each token at the beginning of z costs with what is behind it: the byte first. -/
def bX (L : List ByteArray) (z : List Nat) : List (Nat × Nat) := add2 (bB (z.headD 0)) (bC L (z.drop 1)) :: (standsT (L.map nums) 40 z).map (fun n => add2 (bB (tokT (L.map nums) z n)) (bC L (z.drop n)))

theorem bX_ch {L : List ByteArray} {z : List Nat} {x : Nat × Nat} : x ∈ bX L z ↔ ∃ h ∈ bS L z, x = add2 (bB h.1) (bC L (z.drop h.2)) := by
  unfold bX bS chT
  rw [List.mem_cons, List.mem_map]
  constructor
  · rintro (rfl | ⟨n, hn, rfl⟩)
    · exact ⟨(z.headD 0, 1), by simp, rfl⟩
    · exact ⟨(tokT (L.map nums) z n, n), List.mem_append.2 (.inl (List.mem_map.2 ⟨n, hn, rfl⟩)), rfl⟩
  · rintro ⟨h, hh, rfl⟩
    rcases List.mem_append.1 hh with hh | hh
    · obtain ⟨n, hn, rfl⟩ := List.mem_map.1 hh
      exact .inr ⟨n, hn, rfl⟩
    · rw [List.mem_singleton] at hh
      subst hh
      exact .inl rfl

theorem bX_le {L : List ByteArray} (hP : ∀ s ∈ L.map nums, s.length ≤ 40) {z : List Nat} (hz : Txt z) (hne : z ≠ []) : ∀ x ∈ bX L z, ¬ lt2 x (bC L z) := by
  intro x hx
  obtain ⟨h, hh, rfl⟩ := bX_ch.1 hx
  exact not_lt_of_le2 (costT_le _ 40 hP bB bigN z hne hz.1 h hh)

theorem bX_has {L : List ByteArray} (hP : ∀ s ∈ L.map nums, s.length ≤ 40) {z : List Nat} (hz : Txt z) (hne : z ≠ []) : bC L z ∈ bX L z := by
  obtain ⟨h, hh, e⟩ := costT_kept _ 40 hP bB bigN z hne hz.1 hz.big
  exact bX_ch.2 ⟨h, hh, e⟩

theorem bX_small {L : List ByteArray} (hP : ∀ s ∈ L.map nums, s.length ≤ 40) {z : List Nat} (hz : Txt z) : ∀ x ∈ bX L z, x.1 ≤ 100000 ∧ x.2 ≤ 100000 := by
  intro x hx
  obtain ⟨h, hh, rfl⟩ := bX_ch.1 hx
  have h1 := bC_small hP (hz.drop h.2)
  have h2 := (hz.drop h.2).2
  have h3 := bB_le h.1
  unfold add2
  simp only
  omega

theorem cNs_append (xs ys : List (Nat × Nat)) : cNs xs ++ cNs ys = cNs (xs ++ ys) := by simp [cNs]

/-- append of costs, at a step of a region that draws its order. -/
theorem step_append_costs {ops : Array Oper} {o : Oper} {a : Act} {K : Act → World → Prop} {Q : Exit → Act → World → Prop} {E : Prop} (w : World) (hgd : o.guard = none) (s x : Operand)
    (ho : o.op = .call { callee := .builtin .append, args := #[s, x], argTypes := #[27, 27] })
    (base : Nat) (v : Value) (n : Nat) (xs : List (Nat × Nat)) (hs : a.eval s = v) (hown : w.ownsRow base 29 1 v n (cNs xs))
    (u : Value) (ys : List (Nat × Nat)) (hx : a.eval x = u) (hu : Reads w u (cNs ys)) (h63 : n + ys.length ≤ 1000000) (hbase : base ≤ w.heap.size)
    (h : ∀ v' w', w'.ownsRow base 29 1 v' (n + ys.length) (cNs (xs ++ ys)) → w.grownBy w' v.ownBlock → K (a.put o.dst v') w') :
    if Region.wanted o (yielded ops a.tmps) = true then Oper.wp Try.prog o a w K Q else E := by
  have hw : Region.wanted o (yielded ops a.tmps) = true := by simp [Region.wanted, hgd]
  rw [if_pos hw]
  obtain ⟨i0, hi0, hz0, hz1, hz2⟩ := info_parts Try.infoCx
  have hny := cNs_length ys
  obtain ⟨v', w', hr, h2, h3, _, _⟩ := run_append_reads (P := Try.prog) w 27 o.type base 29 i0 (.complex .f64 0 0) 16 Try.underlying27 hi0 hz0 hz1 hz2 rfl v n (cNs xs) hown u (cNs ys) hu (cNs_one ys) (by rw [hny]; unfold maxLen; omega) (by rw [hny]; omega) hbase
  rw [cNs_append, hny] at h2
  unfold Oper.wp execOp
  simp only [ho, resolve, invoke, builtin, Sem.run_bind, Sem.run_pure, Result.andThen_ok, List.map_toArray, List.map_cons, List.map_nil, hs, hx, hr]
  exact h v' w' h2 h3

/-- Rows of elements of two types lie in two blocks. -/
theorem rows_apart {w : World} {B B' s s' n m : Nat} {v u : Value} {xs ys : List Value} {e e' : TypeId} (h : w.ownsRow B e s v n xs) (h' : w.ownsRow B' e' s' u m ys) (hne : e ≠ e') : ∀ g, u.ownBlock = some g → some g ≠ v.ownBlock := by
  intro g hg hv
  obtain ⟨_, c1, h1⟩ := ownsRow_block h g hv.symm
  obtain ⟨_, c2, h2⟩ := ownsRow_block h' g hg
  rw [h1] at h2
  injection h2 with h2
  injection h2 with _ h3
  exact hne h3

theorem cost_cell {w : World} {B g N cap : Nat} {L : List ByteArray} {y : List Nat} (h : w.ownsRow B 29 1 (.slice (some ⟨g, 0, none⟩) N cap) N (cNs (bCs L y))) (k : Nat) (hk : k ≤ y.length) : w.cell? ⟨g, k, none⟩ = some (.complex .f64 (fN (bC L (y.drop k)).1) (fN (bC L (y.drop k)).2)) := by
  have hN : (bCs L y).length = y.length + 1 := bCs_length L y
  have h1 := h.1
  rw [cNs_length, hN] at h1
  have h2 := h.cellAt k (by omega)
  rw [h2, cNs_at _ k (by omega)]
  have h3 := bCs_at L y k hk
  rw [List.getD_eq_getElem?_getD, List.getElem?_eq_getElem (by omega), Option.getD_some] at h3
  rw [h3]
  rfl

theorem owns_cost (w : World) (B : Nat) (hB : B ≤ w.heap.size) (x : Nat × Nat) : (w.alloc (.cells #[.complex .f64 (fN x.1) (fN x.2)] 29)).ownsRow B 29 1 (.slice (some ⟨w.heap.size, 0, none⟩) 1 1) 1 (cNs [x]) :=
  ⟨rfl, .inr ⟨_, 1, _, rfl, hB, heap_alloc_new w _, Nat.le_refl _, by decide, rfl, rfl⟩⟩

set_option maxRecDepth 20000 in
set_option maxHeartbeats 8000000 in
theorem costs_walk (v : Value) (L : List ByteArray) (b : ByteArray) (w : World) (h : ListIn w v L) :
    Calls Try.prog 3 #[v, .string b] w fun e w' => e = .returned (.bool true) ∧ Below w.heap.size w w' := by
  have H := hid h
  clear h
  by_cases hfits : Fits L (b)
  · obtain ⟨_, h400, hF⟩ := id hfits
    have HF := hid hF
    have hl100 := hF.1
    have HFits := hid hfits
    clear hF hfits
    have HNIL : Hid (bC L ((nums b).drop b.size) = (0, 0)) := by show _ = _; rw [List.drop_eq_nil_of_le (by rw [nums_length]; exact Nat.le_refl _)]; rfl
    have e0 : (FloatKind.f64.format.order (fN 0) 0 == some .eq) = true := by decide +kernel
    have hbb : ((b.size : Int) + 1 != ((b.size : Int) + 1)) = false := by simp
    have hxb : (decide ((0 : Int) ≤ (b.size : Int) ∧ (b.size : Int) < (b.size : Int) + 1)) = true := decide_eq_true ⟨by omega, by omega⟩
    go_enter Try.func3, Try.ntmps3
    go_wp2_with (first
      | (go_at_call 7; refine (dict_fits H.out HFits.out).mono ?_; rintro e w1 ⟨p, rfl, hd1, hb1⟩; have HD1 := hid hd1; have H1 := hid (H.out.below hb1); have HB1 := hid hb1; clear hd1 hb1)
      | (go_at_call 8; refine (alive_15 _).mono ?_; rintro e w2 ⟨rfl, hb2⟩; have H2 := hid (H1.out.below hb2); have HD2 := hid (HD1.out.below hb2); have HB2 := hid (HB1.out.trans (hb2.mono HB1.out.size)); clear hb2)
      | (go_at_call 9; refine (costsB_any HD2.out HF.out b (by omega)).mono ?_; rintro e w3 ⟨v3, rfl, ho3, hb3⟩; obtain ⟨G, cap, rfl, hG, hG2⟩ := ho3.form (by omega); have HO3 := hid ho3; have c30 := cost_cell ho3 b.size (by rw [nums_length]; exact Nat.le_refl _); rw [HNIL.out] at c30; have H3 := hid (H2.out.below hb3); have HB3 := hid (below_more HB2.out hb3); clear ho3 hb3))
    have HCC := fun (W : World) (hW : Below w3.heap.size w3 W) (k : Nat) (hk : k ≤ b.size) => hid (keeps hW _ _ (cost_cell HO3.out k (by rw [nums_length]; exact hk)))
    have HT := hid (txt_nums b (by omega))
    have hl1 : L.length ≤ 1000 := by omega
    have HPP := hid (phrases_short HF.out)
    clear c30 e0 HNIL hxb
    go_loopw [8] (fun vi wr => ∃ a : Nat, vi = .int .i64 a ∧ a ≤ b.size ∧ Hid (Below w3.heap.size w3 wr)) (fun vi _ => b.size - (intOf vi).toNat)
    case atStart => exact ⟨0, rfl, by omega, Below.refl _ _⟩
    case round =>
      obtain ⟨a, rfl, ha, hbr⟩ := hrel
      by_cases hin : a < b.size
      · have hdi : decide ((a : Int) < (b.size : Int)) = true := decide_eq_true (by omega)
        have hne : (nums b).drop a ≠ [] := by
          intro e
          have := congrArg List.length e
          rw [List.length_drop, nums_length] at this
          simp at this
          omega
        obtain ⟨z, hz⟩ : ∃ z, z = (nums b).drop a := ⟨_, rfl⟩
        have hzt : Txt z := by rw [hz]; exact HT.out.drop a
        rw [← hz] at hne
        have hzl : z.length = b.size - a := by rw [hz, List.length_drop, nums_length]
        have HLE := hid (bX_le HPP.out hzt hne)
        have HHAS := hid (bX_has HPP.out hzt hne)
        have HSMALL := hid (bX_small HPP.out hzt)
        obtain ⟨c, hc⟩ : ∃ c, c = z.headD 0 := ⟨_, rfl⟩
        have hcb : ((b[a]'hin).toNat : Int) = (c : Int) := by
          rw [hc, hz]
          have h1 : (nums b).drop a = (b[a]'hin).toNat :: (nums b).drop (a + 1) := by
            rw [List.drop_eq_getElem_cons (by rw [nums_length]; exact hin), nums_at b a hin]
          rw [h1]
          rfl
        have hc1 : c < 256 := by have := (b[a]'hin).toNat_lt; omega
        have hbi := fun W => byte_index b a hin W
        rw [hcb] at hbi
        have hwc := Go.IntWalk.i64_in (c : Int) (by omega)
        have hof := fun W => of_any (c : Int) W
        rw [tk_in c (by omega)] at hof
        have HOF := hid hof
        have hs1 := bC_small HPP.out (hzt.drop 1)
        have hs2 := (hzt.drop 1).2
        have c1 := HCC _ hbr.out (a + 1) (by omega)
        rw [← List.drop_drop, ← hz] at c1
        obtain ⟨⟨p1, q1⟩, hpq⟩ : ∃ d, d = bC L (z.drop 1) := ⟨_, rfl⟩
        rw [← hpq] at hs1 c1
        dsimp only at hs1 c1
        have hb1 := bt_le (c : Int)
        have hadd := fun (K : TypeId) (W : World) => run_complex_sum (P := Try.prog) W .add (Or.inl rfl) K .f64 (fN 1) (fN (bt (c : Int))) (fN p1) (fN q1) _ _ (cadd_fN 1 (bt (c : Int)) p1 q1 (by omega) (by omega))
        have hx' : (decide ((0 : Int) ≤ (a : Int) ∧ (a : Int) < (b.size : Int))) = true := decide_eq_true ⟨by omega, by omega⟩
        obtain ⟨a1, ha1⟩ : ∃ a1, a1 = a + 1 := ⟨_, rfl⟩
        have hsum : (a : Int) + 1 = (a1 : Int) := by omega
        have hwa := Go.IntWalk.i64_in (a1 : Int) (by omega)
        rw [← ha1] at c1
        have hab : a1 ≤ b.size := by omega
        have hx'' : (decide ((0 : Int) ≤ (a1 : Int) ∧ (a1 : Int) < (b.size : Int) + 1)) = true := decide_eq_true ⟨by omega, by omega⟩
        have hx3 : (a1 : Int) < (b.size : Int) + 1 := by omega
        have HA1 := hid ha1
        clear ha1
        have HX0 : Hid (bX L z = (1 + p1, bt (c : Int) + q1) :: (standsT (L.map nums) 40 z).map (fun n => add2 (bB (tokT (L.map nums) z n)) (bC L (z.drop n)))) := by show _ = _; unfold bX; rw [← hc, ← hpq]; rfl
        have HZ := hid hz
        have c1o := c1.out
        have c1d := fun o : Obj => keeps ((Below.refl wr.heap.size wr).alloc (Nat.le_refl _) o) _ _ c1o
        clear hz hzl hc hcb hof hpq hs1 hs2 hne
        go_upto_region 13 with fail
        go_cut [10] from 47 to 114 (fun uo wc => ∃ g0 : Nat, uo = .slice (some ⟨g0, 0, none⟩) 1 1 ∧ Hid (wc.ownsRow w3.heap.size 29 1 (.slice (some ⟨g0, 0, none⟩) 1 1) 1 (cNs [(1 + p1, bt (c : Int) + q1)])) ∧ Hid (Below w3.heap.size w3 wc))
        case first =>
          go_region_law ((go_simp; go_at_call 10; refine (HOF.out _).mono ?_; rintro e w4 ⟨rfl, hw4⟩; subst hw4))
          all_goals go_wp2
          all_goals go_meet
          all_goals exact ⟨_, rfl, owns_cost wr w3.heap.size hbr.out.size (1 + p1, bt (c : Int) + q1), (hbr.out.alloc hbr.out.size _).drew⟩
        case rest =>
          obtain ⟨g0, rfl, HO5, HB5⟩ := hcut
          clear c1 c1o c1d hadd
          have H5 := hid (H3.out.below HB5.out)
          obtain ⟨S, hS⟩ : ∃ S, S = standsT (L.map nums) 40 z := ⟨_, rfl⟩
          have HST := hid (stands_any H5.out.1 hl1 b (by omega) a hin)
          rw [← HZ.out, ← hS] at HST
          rw [← hS] at HX0
          obtain ⟨m, hm⟩ : ∃ m, m = S.length := ⟨_, rfl⟩
          rw [← hm] at HST
          have hm40 : m ≤ 40 := by rw [hm, hS]; unfold standsT; refine Nat.le_trans (List.length_filter_le _ _) ?_; rw [List.length_reverse, List.length_range']; omega
          have HS := hid hS
          have HM := hid hm
          clear hS hm
          go_wp2_with (go_at_call 11; refine (HST.out).mono ?_; rintro e w6 ⟨v6, rfl, ho6, hb6⟩; obtain ⟨a6, c6, rfl⟩ := ownsRow_slice ho6; have HR6 := hid ho6; have HO6 := hid (ownsRow_below HO5.out hb6); have HB6 := hid (below_more HB5.out hb6); clear ho6 hb6)
          go_loopw [10, 70] (fun uo vj wq => ∃ (j : Nat) (xs : List (Nat × Nat)), vj = .int .i64 j ∧ j ≤ m ∧ Hid (xs = (1 + p1, bt (c : Int) + q1) :: (S.take j).map (fun n => add2 (bB (tokT (L.map nums) z n)) (bC L (z.drop n)))) ∧ Hid (wq.ownsRow w3.heap.size 29 1 uo (j + 1) (cNs xs)) ∧ Hid (wq.ownsRow w3.heap.size 3 1 (.slice a6 m c6) m (numsI S)) ∧ Hid (Below w3.heap.size w3 wq)) (fun _ vj _ => m - (intOf vj).toNat)
          case atStart => exact ⟨0, _, rfl, by omega, by show _ = _; rw [List.take_zero]; rfl, HO6.out, ownsRow_lower HR6.out HB5.out.size, HB6.out⟩
          case round =>
            obtain ⟨j, xs, rfl, hj, hxs, hown, hrow, hbq⟩ := hrel
            obtain ⟨au, cu, rfl⟩ := ownsRow_slice hown.out
            by_cases hjm : j < m
            · have hdj : decide ((j : Int) < (m : Int)) = true := decide_eq_true (by omega)
              have hjS : j < S.length := by rw [← HM.out]; exact hjm
              obtain ⟨g6, k6, e6, _, _⟩ := hrow.out.form (by omega)
              simp only [Value.slice.injEq] at e6
              obtain ⟨rfl, _, rfl⟩ := e6
              have cj2 := hrow.out.cellAt j (by omega)
              rw [numsI_at _ j hjS] at cj2
              have hxj : (decide ((0 : Int) ≤ (j : Int) ∧ (j : Int) < (m : Int))) = true := decide_eq_true ⟨by omega, by omega⟩
              obtain ⟨n, hn⟩ : ∃ n, n = S[j]'hjS := ⟨_, rfl⟩
              rw [← hn] at cj2
              have hnS := (standsT_mem (L.map nums) 40 HPP.out z n).1 (by rw [← HS.out, hn]; exact List.getElem_mem _)
              obtain ⟨hn1, hn2, hn3⟩ := hnS
              have hzl : z.length = b.size - a := by rw [HZ.out, List.length_drop, nums_length]
              rw [hzl] at hn2
              have HXS : Hid (xs ++ [add2 (bB (tokT (L.map nums) z n)) (bC L (z.drop n))] = (1 + p1, bt (c : Int) + q1) :: (S.take (j + 1)).map (fun n => add2 (bB (tokT (L.map nums) z n)) (bC L (z.drop n)))) := by
                show _ = _
                rw [hxs.out, List.take_succ_eq_append_getElem hjS, List.map_append, ← hn]
                rfl
              have HQ6 : Hid (Below w3.heap.size w3 wr) := hbq.out
              have Hq := hid (H3.out.below HQ6.out)
              have htk := tokT_is (L.map nums) z n hzt.1
              have htk2 := isT_small hl100 htk
              have HTOK := fun (W : World) (hW : Below wr.heap.size wr W) => hid (token_any (Hq.out.1.below hW) hl1 b (by omega) a n hin (by omega))
              simp only [← HZ.out] at HTOK
              have c2 := (HCC _ HQ6.out (a + n) (by omega)).out
              rw [← List.drop_drop, ← HZ.out] at c2
              have hs3 := bC_small HPP.out (hzt.drop n)
              have hs4 := (hzt.drop n).2
              obtain ⟨⟨p2, q2⟩, hpq2⟩ : ∃ d, d = bC L (z.drop n) := ⟨_, rfl⟩
              rw [← hpq2] at c2 hs3 HXS
              dsimp only at c2 hs3
              obtain ⟨t, ht⟩ : ∃ t, t = tokT (L.map nums) z n := ⟨_, rfl⟩
              simp only [← ht] at HTOK
              rw [← ht] at htk2 HXS
              have hof2 := fun W => of_any (t : Int) W
              rw [tk_in t (by omega)] at hof2
              have HOF2 := hid hof2
              have hb2 := bt_le (t : Int)
              have hadd2 := fun (K : TypeId) (W : World) => run_complex_sum (P := Try.prog) W .add (Or.inl rfl) K .f64 (fN 1) (fN (bt (t : Int))) (fN p2) (fN q2) _ _ (cadd_fN 1 (bt (t : Int)) p2 q2 (by omega) (by omega))
              have HX2 : Hid (xs ++ [(1 + p2, bt (t : Int) + q2)] = (1 + p1, bt (c : Int) + q1) :: (S.take (j + 1)).map (fun n => add2 (bB (tokT (L.map nums) z n)) (bC L (z.drop n)))) := HXS.out
              obtain ⟨a2, ha2⟩ : ∃ a2, a2 = a + n := ⟨_, rfl⟩
              have hsum2 : (a : Int) + (n : Int) = (a2 : Int) := by omega
              have hwa2 := Go.IntWalk.i64_in (a2 : Int) (by omega)
              rw [← ha2] at c2
              have hab2 : a2 ≤ b.size := by omega
              have hx2 : (decide ((0 : Int) ≤ (a2 : Int) ∧ (a2 : Int) < (b.size : Int) + 1)) = true := decide_eq_true ⟨by omega, by omega⟩
              have hx4 : (a2 : Int) < (b.size : Int) + 1 := by omega
              have c2d := fun o : Obj => keeps ((Below.refl wr.heap.size wr).alloc (Nat.le_refl _) o) _ _ c2
              have HTD := HTOK wr.drew (Below.refl _ _).drew
              have hwa : Below wr.heap.size wr (wr.alloc (.cells #[.complex .f64 (fN (1 + p2)) (fN (bt (t : Int) + q2))] 29)).drew := ((Below.refl _ _).alloc (Nat.le_refl _) _).drew
              have HOW := hid (ownsRow_below hown.out hwa)
              have HRW : Hid (Reads (wr.alloc (.cells #[.complex .f64 (fN (1 + p2)) (fN (bt (t : Int) + q2))] 29)).drew (.slice (some ⟨wr.heap.size, 0, none⟩) 1 1) (cNs [(1 + p2, bt (t : Int) + q2)])) := (reads_built wr #[.complex .f64 (fN (1 + p2)) (fN (bt (t : Int) + q2))] 29 1 rfl)
              have HSZ3 : Hid (w3.heap.size ≤ wr.heap.size) := HQ6.out.size
              have HBA := hid (HQ6.out.trans (hwa.mono HSZ3.out))
              have HROW := hid (ownsRow_below hrow.out hwa)
              have HSZA : Hid (w3.heap.size ≤ (wr.alloc (.cells #[.complex .f64 (fN (1 + p2)) (fN (bt (t : Int) + q2))] 29)).drew.heap.size) := Nat.le_trans HSZ3.out hwa.size
              have h106 : (j + 1) + [((1 + p2, bt (t : Int) + q2) : Nat × Nat)].length ≤ 1000000 := by simp; omega
              clear hn hn3 hzl htk hpq2 ht hof2 ha2 HXS HTOK hxs hwa
              go_upto_region 17 with fail
              go_region_law (first
                | (refine step_append_costs _ (by rfl) (.tmp 74) (.tmp 88) (by rfl) w3.heap.size (.slice au (j + 1) cu) (j + 1) xs (by simp [Act.eval]) HOW.out (.slice (some ⟨wr.heap.size, 0, none⟩) 1 1) [(1 + p2, bt (t : Int) + q2)] (by simp [Act.eval]) HRW.out h106 HSZA.out ?_; intro v8 w8 hown8 hgr8; have HO8 := hid hown8; have HB8 := hid (HBA.out.grown hgr8 HSZA.out (fun g hg => (HOW.out.lt g hg).1)); have HROW8 := hid (ownsRow_same HROW.out (fun g hg => hgr8.block g (HROW.out.lt g hg).2 (rows_apart HOW.out HROW.out (by decide) g hg))); clear hown8 hgr8)
                | (go_simp; go_at_call 12; refine (HTD.out).mono ?_; rintro e w7 ⟨rfl, hw7⟩; subst hw7)
                | (go_simp; go_at_call 10; refine (HOF2.out _).mono ?_; rintro e w7 ⟨rfl, hw7⟩; subst hw7))
              all_goals
                go_wp2
                go_roundw
                case rel => exact ⟨j + 1, _, by go_num, by omega, HX2.out, HO8.out, HROW8.out, HB8.out⟩
                case measure => simp [intOf]; omega
            · obtain rfl : j = m := by omega
              have hdj : decide ((j : Int) < (j : Int)) = false := decide_eq_false (by omega)
              have hxs2 : xs = bX L z := by rw [HX0.out, hxs.out, List.take_of_length_le (by rw [← HM.out]; exact Nat.le_refl _)]
              have HXS := hid hxs2
              clear hxs hxs2
              have cA := HCC _ hbq.out a (by omega)
              rw [← HZ.out] at cA
              have hsA := bC_small HPP.out hzt
              have hsA2 := hzt.2
              have hle := HLE.out
              have hhas := HHAS.out
              obtain ⟨⟨pa, qa⟩, hpa⟩ : ∃ d, d = bC L z := ⟨_, rfl⟩
              rw [← hpa] at cA hsA hle hhas
              rw [← HXS.out] at hle hhas
              have hsm := HSMALL.out
              rw [← HXS.out] at hsm
              dsimp only at hsA
              have HLE2 := hid hle
              have HHAS2 := hid hhas
              have HSM2 := hid hsm
              obtain ⟨M, hM⟩ : ∃ M, M = j + 1 := ⟨_, rfl⟩
              have hML : xs.length = M := by
                have h1 := hown.out.1
                rw [cNs_length] at h1
                omega
              rw [← hM] at hown
              have hMj : ((j : Int) + 1) = (M : Int) := by omega
              have HML := hid hML
              have HA := hid cA.out
              have hM41 : M ≤ 41 := by omega
              have hcA : Hid (∀ W : World, Below w3.heap.size w3 W → W.cell? ⟨G, a, none⟩ = some (.complex .f64 (fN pa) (fN qa))) := fun W hW => by
                have h1 := HCC W hW a (by omega)
                rw [← HZ.out, ← hpa] at h1
                exact h1.out
              clear hpa hle hhas hsm hML hrow cA HA HXS HLE HHAS HSMALL hM
              go_wp2
              go_loopw [9, 93] (fun uk vi wq => ∃ i : Nat, vi = .int .i64 i ∧ i ≤ M ∧ uk = .bool (decide ((pa, qa) ∈ xs.take i)) ∧ Hid (wq.ownsRow w3.heap.size 29 1 (.slice au M cu) M (cNs xs)) ∧ Hid (Below w3.heap.size w3 wq)) (fun _ vi _ => M - (intOf vi).toNat)
              case atStart => exact ⟨0, rfl, by omega, by simp, hown.out, hbq.out⟩
              case round =>
                clear hown hbq
                obtain ⟨i, rfl, hi, rfl, hown, hbq⟩ := hrel
                by_cases him : i < M
                · have hdi2 : decide ((i : Int) < (M : Int)) = true := decide_eq_true (by omega)
                  have hiX : i < xs.length := by rw [HML.out]; exact him
                  obtain ⟨g8, k8, e8, _, _⟩ := hown.out.form (by omega)
                  simp only [Value.slice.injEq] at e8
                  obtain ⟨rfl, _, rfl⟩ := e8
                  have ci := hown.out.cellAt i (by omega)
                  rw [cNs_at _ i hiX] at ci
                  have hxi : (decide ((0 : Int) ≤ (i : Int) ∧ (i : Int) < (M : Int))) = true := decide_eq_true ⟨by omega, by omega⟩
                  have hsx := HSM2.out _ (List.getElem_mem hiX)
                  have hlx := HLE2.out _ (List.getElem_mem hiX)
                  have htk : Hid (xs.take (i + 1) = xs.take i ++ [xs[i]'hiX]) := List.take_succ_eq_append_getElem hiX
                  obtain ⟨⟨x1, x2⟩, hx12⟩ : ∃ d, d = xs[i]'hiX := ⟨_, rfl⟩
                  rw [← hx12] at ci hsx hlx htk
                  dsimp only [cN] at ci hsx
                  have hdl : decide (x1 < pa ∨ x1 = pa ∧ x2 < qa) = false := decide_eq_false hlx
                  have HDL := hid hdl
                  have cA := hcA.out _ hbq.out
                  have hxa : (decide ((0 : Int) ≤ (a : Int) ∧ (a : Int) < (b.size : Int) + 1)) = true := decide_eq_true ⟨by omega, by omega⟩
                  have hxa2 : (a : Int) < (b.size : Int) + 1 := by omega
                  have o1 : (FloatKind.f64.format.order (fN x1) (fN pa) == some .eq) = decide (x1 = pa) := eq_fN x1 pa (by omega) (by omega)
                  have o2 : (FloatKind.f64.format.order (fN x2) (fN qa) == some .eq) = decide (x2 = qa) := eq_fN x2 qa (by omega) (by omega)
                  clear hx12 hlx hdl
                  by_cases hk : (pa, qa) ∈ xs.take i
                  · have hkd : decide ((pa, qa) ∈ xs.take i) = true := decide_eq_true hk
                    have hk2 : Hid (decide ((pa, qa) ∈ xs.take (i + 1)) = true) := decide_eq_true (by rw [htk.out]; exact List.mem_append.2 (.inl hk))
                    rw [hkd]
                    clear hk hkd o1 o2
                    go_wp2_with (go_at_call 13; refine (less_in x1 x2 pa qa (by omega) (by omega) (by omega) (by omega) _).mono ?_; rintro e w9 ⟨rfl, rfl⟩; rw [HDL.out])
                    go_roundw
                    case rel => exact ⟨i + 1, by go_num, by omega, by rw [hk2.out], hown.out, hbq.out⟩
                    case measure => simp [intOf]; omega
                  · have hkd : decide ((pa, qa) ∈ xs.take i) = false := decide_eq_false hk
                    have hk2 : Hid (decide ((pa, qa) ∈ xs.take (i + 1)) = (decide (x1 = pa) && decide (x2 = qa))) := by
                      show _ = _
                      rw [htk.out, ← Bool.decide_and]
                      refine decide_eq_decide.2 ?_
                      rw [List.mem_append, List.mem_singleton, Prod.mk.injEq]
                      constructor
                      · rintro (h | h)
                        · exact absurd h hk
                        · exact ⟨h.1.symm, h.2.symm⟩
                      · rintro ⟨rfl, rfl⟩
                        exact .inr ⟨rfl, rfl⟩
                    rw [hkd]
                    clear hk hkd
                    generalize decide (x1 = pa) = t1 at *
                    generalize decide (x2 = qa) = t2 at *
                    go_wp2_with (go_at_call 13; refine (less_in x1 x2 pa qa (by omega) (by omega) (by omega) (by omega) _).mono ?_; rintro e w9 ⟨rfl, rfl⟩; rw [HDL.out])
                    go_roundw
                    case rel => exact ⟨i + 1, by go_num, by omega, by rw [hk2.out], hown.out, hbq.out⟩
                    case measure => simp [intOf]; omega
                · obtain rfl : i = M := by omega
                  have hdi2 : decide ((i : Int) < (i : Int)) = false := decide_eq_false (by omega)
                  have hkd : decide ((pa, qa) ∈ xs.take i) = true := decide_eq_true (by rw [List.take_of_length_le (by rw [HML.out]; exact Nat.le_refl _)]; exact HHAS2.out)
                  rw [hkd]
                  clear hkd
                  go_wp2
                  go_roundw
                  case rel => exact ⟨a1, by rw [← hsum], by omega, hbq.out⟩
                  case measure => have := HA1.out; simp [intOf]; omega
      · obtain rfl : a = b.size := by omega
        have hdi : decide ((b.size : Int) < (b.size : Int)) = false := decide_eq_false (by omega)
        have HBr := hid (below_more HB3.out hbr.out)
        go_wp2
        go_ret
        exact ⟨rfl, HBr.out⟩
  · have HFits := hid hfits
    clear hfits
    go_enter Try.func3, Try.ntmps3
    go_wp2_with (first
      | (go_at_call 7; refine (dict_no H.out HFits.out).mono ?_; rintro e w1 ⟨rfl, rfl⟩)
      | (go_at_call 8; refine (alive_15 _).mono ?_; rintro e w2 ⟨rfl, hb2⟩))
    go_ret
    exact ⟨rfl, hb2⟩

set_option linter.unusedVariables false
theorem bestCosts_own : ownKnob Try.prog.godebug = none := by kernel_rfl

theorem bestCosts_laidOut : laidOutB Try.prog = true := by kernel_rfl

set_option maxRecDepth 100000 in
theorem bestCosts_lifted (os : Os) (started : os.Started) (H : Type) (enc : TypeId × Value → H) :
    ReturnsInHanded {} Try.checked os 3 .any (Rows.bestCostsSpec.pre6 enc Try.prog Try.f3 Rows.bestCostsRow.domain false) (Rows.bestCostsSpec.post enc Try.prog Try.f3 false true false false) := by
  refine returnsInHanded_of_change_sized (C := Try.checked) bestCosts_own started (by kernel_rfl) Try.func3
    (ChangeSpec.witness6 (enc := enc) (C := Try.checked) false ⟨#[], #[.slice none 0 0, .string ByteArray.empty], []⟩ 8 (by kernel_rfl) (by kernel_rfl) (by kernel_rfl) (by kernel_rfl)) ?_
  intro W base args ds gs before hval0 hW hcnd hsz0 _
  have hsz : (DataW.weightsEach Try.prog (Try.f3.params.toList ++ Rows.bestCostsSpec.plain.varTypes Try.prog) (ds ++ gs)).all (· ≤ reachBytes) = true := hsz0
  have hval : ∀ (j : Nat) t v, Try.f3.params[j]? = some t → args[j]? = some v → Value.okWide Try.prog W .any base t v := hval0
  have hW' := hW
  obtain ⟨p, q, hA0, hV, rfl, hfz, hnd⟩ := hW
  have hA : DataW.TrodAll enc Try.prog W 0 (fun _ => true) true Try.f3.params.toList args.toList ds p := hA0
  rw [Try.params3] at hA hval hsz
  obtain ⟨v0, vs0, d0, ds0, p0, q0, hargs, rfl, rfl, h0, r0⟩ := trodAll_cons hA
  obtain ⟨v1, vs1, d1, ds1, p1, q1, rfl, rfl, rfl, h1, r1⟩ := trodAll_cons r0
  obtain ⟨rfl, rfl, rfl⟩ := trodAll_nil r1
  obtain rfl : args = #[v0, v1] := by cases args; simp_all
  obtain ⟨rfl, rfl⟩ := trodVars_none hV
  obtain ⟨a0, len0, cap0, rfl⟩ := okWide_slice Try.underlying22 (hval 0 22 v0 rfl rfl)
  have k0 := h0
  have lt0 : ∀ x ∈ p0, x.block < W.heap.size := by obtain ⟨m, hm⟩ := k0; exact DataW.trod_lt m _ _ _ hm
  obtain ⟨z0, w0⟩ := h0.elim (fun _ hf => open_list hf hsz 0 rfl rfl)
  obtain ⟨a1, rfl, rfl, rfl, w1⟩ := open_string Try.underlying9 (hval 1 9 v1 rfl rfl) h1
  clear hA0 hval0
  have s1 : a1.size ≤ 140737488351232 := by have h := sized_string hsz (j := 1) (t := 9) rfl rfl; rw [Array.length_toList] at h; exact h
  refine (costs_walk _ z0 a1 W w0).mono fun e W' ⟨he, bel⟩ => ?_
  subst he
  exact ⟨_, rfl, _, _, _, [], _, [], hW', trodAll_mk1 (shut_bool Try.underlying4 _), (trodAll_cons_mk (Below.trod bestCosts_laidOut (by kernel_rfl) (of_decide_eq_true (by kernel_rfl)) k0 bel lt0) (trodAll_cons_mk (shut_string Try.underlying9 w1) trodAll_mk0)), rfl, bel.frame _, fun h => by cases h⟩

/-- THE STATEMENT. -/
theorem bestCosts_holds : Rows.BestCostsSaid :=
  OpenClaim.holds_of_wide 3 Try.f3 rfl rfl rfl rfl rfl rfl rfl ⟨rfl, rfl, rfl, rfl, rfl⟩ rfl rfl rfl rfl rfl (by kernel_rfl) Try.func3 (by kernel_rfl)
    (of_decide_eq_true (by kernel_rfl)) (by unfold Func.isWrapper; first | (rw [if_pos (by decide +kernel)]; kernel_rfl) | (rw [if_neg (by decide +kernel)]; exact ⟨rfl, rfl⟩))
    (fun os started H enc _ => bestCosts_lifted os started H enc)
#print axioms bestCosts_holds
end Go.Proofs.Ytdplflcaanmmiaa
