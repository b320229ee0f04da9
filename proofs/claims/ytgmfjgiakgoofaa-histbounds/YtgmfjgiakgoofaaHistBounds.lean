/-
  HistBounds: tokens that are none of those that are counted are refused; so is a size that may not be. For every two numbers.
  No condition: whatever the input, in whatever memory; the arguments read as before.
-/
import Derived.Test.YtgmfjgiakgoofaaAlive17
namespace Go.Proofs.Ytgmfjgiakgoofaa
open Go.ChangeShapes Go.WideShapes Go.ChangeAt Go.RowKit

theorem one_in {n t : Nat} (h : t < n) : inH n [(t : Int)] := by
  intro x hx
  rw [List.mem_singleton.1 hx]
  omega
theorem one_out {n : Nat} {t : Int} (h : ¬ (0 ≤ t ∧ t < (n : Int))) : ¬ inH n [t] := fun h2 => h (h2 t (List.mem_singleton.2 rfl))

set_option maxRecDepth 20000 in
set_option maxHeartbeats 8000000 in
theorem bounds_walk (s t : Int) (w : World) :
    Calls Try.prog 5 #[.int .i64 s, .int .i64 t] w fun e w' => e = .returned (.bool true) ∧ Below w.heap.size w w' := by
  by_cases hs : 0 ≤ s ∧ s ≤ 356
  · obtain ⟨n, rfl⟩ : ∃ n : Nat, s = (n : Int) := ⟨s.toNat, by omega⟩
    have hn : n ≤ 356 := by omega
    have HN : Hid (n ≤ 356) := hn
    have hs0 : decide ((n : Int) < 0) = false := decide_eq_false (by omega)
    have hs1 : decide ((356 : Int) < (n : Int)) = false := decide_eq_false (by omega)
    clear hs
    by_cases ht : 0 ≤ t ∧ t < (n : Int)
    · obtain ⟨k, rfl⟩ : ∃ k : Nat, t = (k : Int) := ⟨t.toNat, by omega⟩
      have hk : k < n := by omega
      have HK := hid hk
      have ht0 : decide ((k : Int) < 0) = false := decide_eq_false (by omega)
      have ht1 : decide ((n : Int) ≤ (k : Int)) = false := decide_eq_false (by omega)
      have hxk : (decide ((0 : Int) ≤ (k : Int) ∧ (k : Int) < (n : Int))) = true := decide_eq_true ⟨by omega, by omega⟩
      have HE : Hid (ofE (n : Int) [(k : Int)] = 0) := by show _ = _; rw [ofE_fits _ HN.out, addE_in (one_in hk)]
      have HL : Hid (ofL (n : Int) [(k : Int)] = natI (cntH n [(k : Int)])) := by show _ = _; rw [ofL_fits _ HN.out, addH_in (one_in hk), List.nil_append]
      have HS : Hid ((cntH n [(k : Int)]).sum = 1) := cntH_sum n _ (one_in hk)
      have HU : Hid (useH (cntH n [(k : Int)]) = 1) := useH_one n k hk
      have HLN : Hid ((cntH n [(k : Int)]).length ≤ 1000000) := by show _ ≤ _; rw [cntH_length]; omega
      clear ht
      go_enter Try.func5, Try.ntmps5
      go_wp2_with (first
        | (go_at_call 6; refine (alive_17 _).mono ?_; rintro e w1 ⟨rfl, hb1⟩; have HB1 := hid hb1; clear hb1)
        | (go_at_call 8; have hal := (Below.refl w1.heap.size w1).alloc (Nat.le_refl _) (.cells #[.int .i64 (k : Int)] 3); refine (of_any (ys := [(k : Int)]) (n : Int) (reads_built w1 #[.int .i64 (k : Int)] _ 1 rfl) (by simp)).mono ?_; rintro e w2 ⟨v2, rfl, ho2, hb2⟩; rw [HE.out]; rw [HL.out, natH_length] at ho2; obtain ⟨g, cap, hf, hg1, hg2⟩ := ho2.form (by omega); subst hf; have c2 : w2.cell? ⟨g, k, none⟩ = some (.int .i64 1) := (by rw [ho2.cellAt k (by omega), nats_at _ k (by rw [natH_length]; exact HK.out), natI_at _ k (by rw [cntH_length]; exact HK.out), cntH_at n _ k HK.out]; simp); have HR2 := hid (ownsRow_reads ho2); have HB2 := hid (below_more (below_more HB1.out hal) hb2); clear ho2 hb2 hal)
        | (go_at_call 13; refine (total_any (l := cntH n [(k : Int)]) HR2.out HLN.out (by rw [HS.out]; decide)).mono ?_; rintro e w2 ⟨rfl, rfl⟩; rw [HS.out])
        | (go_at_call 14; refine (used_any (l := cntH n [(k : Int)]) HR2.out HLN.out).mono ?_; rintro e w2 ⟨rfl, rfl⟩; rw [HU.out]))
      all_goals go_ret
      all_goals exact ⟨by simp, HB2.out⟩
    · have HE : Hid (ofE (n : Int) [t] = 9) := by show _ = _; rw [ofE_fits _ HN.out, addE_out (one_out ht)]
      have HL : Hid (ofL (n : Int) [t] = []) := by show _ = _; rw [ofL_fits _ HN.out, addH_out (one_out ht)]
      by_cases h0 : t < 0
      · have ht0 : decide (t < 0) = true := decide_eq_true h0
        clear ht h0
        go_enter Try.func5, Try.ntmps5
        go_wp2_with (first
          | (go_at_call 6; refine (alive_17 _).mono ?_; rintro e w1 ⟨rfl, hb1⟩; have HB1 := hid hb1; clear hb1)
          | (go_at_call 8; have hal := (Below.refl w1.heap.size w1).alloc (Nat.le_refl _) (.cells #[.int .i64 t] 3); refine (of_any (ys := [t]) (n : Int) (reads_built w1 #[.int .i64 t] _ 1 rfl) (by simp)).mono ?_; rintro e w2 ⟨v2, rfl, ho2, hb2⟩; rw [HE.out]; rw [HL.out] at ho2; obtain ⟨a2, c2, rfl⟩ := ownsRow_slice ho2; have HB2 := hid (below_more (below_more HB1.out hal) hb2); clear ho2 hb2 hal))
        all_goals go_ret
        all_goals exact ⟨by simp, HB2.out⟩
      · have ht0 : decide (t < 0) = false := decide_eq_false h0
        have ht1 : decide ((n : Int) ≤ t) = true := decide_eq_true (by omega)
        clear ht h0
        go_enter Try.func5, Try.ntmps5
        go_wp2_with (first
          | (go_at_call 6; refine (alive_17 _).mono ?_; rintro e w1 ⟨rfl, hb1⟩; have HB1 := hid hb1; clear hb1)
          | (go_at_call 8; have hal := (Below.refl w1.heap.size w1).alloc (Nat.le_refl _) (.cells #[.int .i64 t] 3); refine (of_any (ys := [t]) (n : Int) (reads_built w1 #[.int .i64 t] _ 1 rfl) (by simp)).mono ?_; rintro e w2 ⟨v2, rfl, ho2, hb2⟩; rw [HE.out]; rw [HL.out] at ho2; obtain ⟨a2, c2, rfl⟩ := ownsRow_slice ho2; have HB2 := hid (below_more (below_more HB1.out hal) hb2); clear ho2 hb2 hal))
        all_goals go_ret
        all_goals exact ⟨by simp, HB2.out⟩
  · have HE : Hid (ofE s [t] = 1) := ofE_no _ hs
    have HL : Hid (ofL s [t] = []) := ofL_no _ hs
    by_cases h0 : s < 0
    · have hs0 : decide (s < 0) = true := decide_eq_true h0
      clear hs h0
      go_enter Try.func5, Try.ntmps5
      go_wp2_with (first
        | (go_at_call 6; refine (alive_17 _).mono ?_; rintro e w1 ⟨rfl, hb1⟩; have HB1 := hid hb1; clear hb1)
        | (go_at_call 8; have hal := (Below.refl w1.heap.size w1).alloc (Nat.le_refl _) (.cells #[.int .i64 t] 3); refine (of_any (ys := [t]) s (reads_built w1 #[.int .i64 t] _ 1 rfl) (by simp)).mono ?_; rintro e w2 ⟨v2, rfl, ho2, hb2⟩; rw [HE.out]; rw [HL.out] at ho2; obtain ⟨a2, c2, rfl⟩ := ownsRow_slice ho2; have HB2 := hid (below_more (below_more HB1.out hal) hb2); clear ho2 hb2 hal))
      all_goals go_ret
      all_goals exact ⟨by simp, HB2.out⟩
    · have hs0 : decide (s < 0) = false := decide_eq_false h0
      have hs1 : decide ((356 : Int) < s) = true := decide_eq_true (by omega)
      clear hs h0
      go_enter Try.func5, Try.ntmps5
      go_wp2_with (first
        | (go_at_call 6; refine (alive_17 _).mono ?_; rintro e w1 ⟨rfl, hb1⟩; have HB1 := hid hb1; clear hb1)
        | (go_at_call 8; have hal := (Below.refl w1.heap.size w1).alloc (Nat.le_refl _) (.cells #[.int .i64 t] 3); refine (of_any (ys := [t]) s (reads_built w1 #[.int .i64 t] _ 1 rfl) (by simp)).mono ?_; rintro e w2 ⟨v2, rfl, ho2, hb2⟩; rw [HE.out]; rw [HL.out] at ho2; obtain ⟨a2, c2, rfl⟩ := ownsRow_slice ho2; have HB2 := hid (below_more (below_more HB1.out hal) hb2); clear ho2 hb2 hal))
      all_goals go_ret
      all_goals exact ⟨by simp, HB2.out⟩

set_option linter.unusedVariables false
theorem histBounds_own : ownKnob Try.prog.godebug = none := by kernel_rfl

set_option maxRecDepth 100000 in
theorem histBounds_lifted (os : Os) (started : os.Started) (H : Type) (enc : TypeId × Value → H) :
    ReturnsInHanded {} Try.checked os 5 .any (Rows.histBoundsSpec.pre6 enc Try.prog Try.f5 Rows.histBoundsRow.domain false) (Rows.histBoundsSpec.post enc Try.prog Try.f5 false true false false) := by
  refine returnsInHanded_of_change (C := Try.checked) histBounds_own started (by kernel_rfl) Try.func5
    (ChangeSpec.witness6 (enc := enc) (C := Try.checked) false ⟨#[], #[.int .i64 0, .int .i64 0], []⟩ 8 (by kernel_rfl) (by kernel_rfl) (by kernel_rfl) (by kernel_rfl)) ?_
  intro W base args ds gs before hval0 hW hcnd _
  have hval : ∀ (j : Nat) t v, Try.f5.params[j]? = some t → args[j]? = some v → Value.okWide Try.prog W .any base t v := hval0
  have hW' := hW
  obtain ⟨p, q, hA0, hV, rfl, hfz, hnd⟩ := hW
  have hA : DataW.TrodAll enc Try.prog W 0 (fun _ => true) true Try.f5.params.toList args.toList ds p := hA0
  rw [Try.params5] at hA hval
  obtain ⟨v0, vs0, d0, ds0, p0, q0, hargs, rfl, rfl, h0, r0⟩ := trodAll_cons hA
  obtain ⟨v1, vs1, d1, ds1, p1, q1, rfl, rfl, rfl, h1, r1⟩ := trodAll_cons r0
  obtain ⟨rfl, rfl, rfl⟩ := trodAll_nil r1
  obtain rfl : args = #[v0, v1] := by cases args; simp_all
  obtain ⟨rfl, rfl⟩ := trodVars_none hV
  obtain ⟨a0, rfl, rfl, rfl, w0⟩ := open_int Try.underlying3 (hval 0 3 v0 rfl rfl) h0
  obtain ⟨a1, rfl, rfl, rfl, w1⟩ := open_int Try.underlying3 (hval 1 3 v1 rfl rfl) h1
  clear hA0 hval0
  refine (bounds_walk a0 a1 W).mono fun e W' ⟨he, bel⟩ => ?_
  subst he
  exact ⟨_, rfl, _, _, _, [], _, [], hW', trodAll_mk1 (shut_bool Try.underlying4 _), (trodAll_cons_mk (shut_int Try.underlying3 w0) (trodAll_cons_mk (shut_int Try.underlying3 w1) trodAll_mk0)), rfl, bel.frame _, fun h => by cases h⟩

/-- THE STATEMENT. -/
theorem histBounds_holds : Rows.HistBoundsSaid :=
  OpenClaim.holds_of_wide 5 Try.f5 rfl rfl rfl rfl rfl rfl rfl ⟨rfl, rfl, rfl, rfl, rfl⟩ rfl rfl rfl rfl rfl (by kernel_rfl) Try.func5 (by kernel_rfl)
    (of_decide_eq_true (by kernel_rfl)) (by unfold Func.isWrapper; first | (rw [if_pos (by decide +kernel)]; kernel_rfl) | (rw [if_neg (by decide +kernel)]; exact ⟨rfl, rfl⟩))
    (fun os started H enc _ => histBounds_lifted os started H enc)
#print axioms histBounds_holds
end Go.Proofs.Ytgmfjgiakgoofaa
