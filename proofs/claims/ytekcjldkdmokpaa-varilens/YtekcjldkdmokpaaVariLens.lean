/-
  The Go function lexiphanelaw3.VariLens returns true for every two integers of 64 bits: a greater number never takes fewer bytes, and none takes more than five.
  No condition: whatever the input, in whatever memory; the arguments read as before.
-/
import Derived.Test.YtekcjldkdmokpaaVari
namespace Go.Proofs.Ytekcjldkdmokpaa
open Go.ChangeShapes Go.WideShapes Go.ChangeAt Go.RowKit

set_option maxRecDepth 20000 in
set_option maxHeartbeats 1000000 in
theorem lens_walk (n m : Int) (w : World) : Calls Try.prog 5 #[.int .i64 n, .int .i64 m] w fun e w' => e = .returned (.bool true) ∧ Below w.heap.size w w' := by
  by_cases hp : pok n = true ∧ pok m = true
  · obtain ⟨hp, hq⟩ := hp
    obtain ⟨h1, h2⟩ := of_decide_eq_true hp
    obtain ⟨h3, h4⟩ := of_decide_eq_true hq
    clear hp hq
    obtain ⟨n, rfl⟩ := Int.eq_ofNat_of_zero_le h1
    obtain ⟨m, rfl⟩ := Int.eq_ofNat_of_zero_le h3
    have hn := vtext_size n
    have hm := vtext_size m
    obtain ⟨a, ha⟩ : ∃ a, a = vlen n := ⟨_, rfl⟩
    obtain ⟨b, hb⟩ : ∃ b, b = vlen m := ⟨_, rfl⟩
    have h5 := vlen_five n (by omega)
    have hl := vlen_pos n
    have hmon := vlen_mono n m
    have h128 := vlen_one n
    rw [← ha] at hn h5 hl hmon h128
    rw [← hb] at hm hmon
    clear ha hb
    have f1 : m < n ∨ (n ≤ m ∧ a ≤ b) := by
      by_cases h : m < n
      · exact .inl h
      · exact .inr ⟨by omega, hmon (by omega)⟩
    have f2 : (((a : Int) == 1) == decide ((n : Int) < 128)) = true := by
      by_cases h : n < 128
      · rw [decide_eq_true (by omega), show ((a : Int) == 1) = true from beq_iff_eq.2 (by have := h128.2 h; omega)]; rfl
      · rw [decide_eq_false (by omega), show ((a : Int) == 1) = false from beq_false_of_ne (fun e => h (h128.1 (by omega)))]; rfl
    have f3 : (((n : Int) == (m : Int)) == ((vtext n).toList == (vtext m).toList)) = true := by
      by_cases h : n = m
      · subst h; simp
      · rw [show ((n : Int) == (m : Int)) = false from beq_false_of_ne (by omega), show ((vtext n).toList == (vtext m).toList) = false from beq_false_of_ne (fun e => h (vtext_inj n m (by omega) (by omega) (toList_inj e)))]
        rfl
    clear hmon h128
    rcases f1 with f1 | ⟨f0, f1⟩
    all_goals
      go_enter Try.func5, Try.ntmps5
      go_wp2_with (first
        | (go_at_call 8; refine (alive_any _).mono ?_; rintro e w3 ⟨rfl, hb3⟩)
        | (go_at_call 9; have _h := hb1; refine (put_in m (by omega) _).mono ?_; rintro e w2 ⟨rfl, hb2⟩)
        | (go_at_call 9; refine (put_in n (by omega) _).mono ?_; rintro e w1 ⟨rfl, hb1⟩))
      go_ret
      exact ⟨rfl, hb1.trans ((hb2.mono hb1.size).trans (hb3.mono (Nat.le_trans hb1.size hb2.size)))⟩
  · have hf : pok n = false ∨ (pok n = true ∧ pok m = false) := by cases h1 : pok n <;> cases h2 : pok m <;> simp_all
    clear hp
    rcases hf with hf | ⟨hf, hg⟩
    all_goals
      go_enter Try.func5, Try.ntmps5
      go_wp2_with (first
        | (go_at_call 8; refine (alive_any _).mono ?_; rintro e w3 ⟨rfl, hb3⟩)
        | (go_at_call 9; have _h := hb1; refine (put_any m _).mono ?_; rintro e w2 ⟨rfl, hb2⟩)
        | (go_at_call 9; refine (put_any n _).mono ?_; rintro e w1 ⟨rfl, hb1⟩))
      go_ret
      exact ⟨rfl, hb1.trans ((hb2.mono hb1.size).trans (hb3.mono (Nat.le_trans hb1.size hb2.size)))⟩

set_option linter.unusedVariables false
theorem variLens_own : ownKnob Try.prog.godebug = none := by kernel_rfl

set_option maxRecDepth 100000 in
theorem variLens_lifted (os : Os) (started : os.Started) (H : Type) (enc : TypeId × Value → H) :
    ReturnsInHanded {} Try.checked os 5 .any (Rows.variLensSpec.pre6 enc Try.prog Try.f5 Rows.variLensRow.domain false) (Rows.variLensSpec.post enc Try.prog Try.f5 false true false false) := by
  refine returnsInHanded_of_change (C := Try.checked) variLens_own started (by kernel_rfl) Try.func5
    (ChangeSpec.witness6 (enc := enc) (C := Try.checked) false ⟨#[], #[.int .i64 0, .int .i64 0], []⟩ 8 (by kernel_rfl) (by kernel_rfl) (by kernel_rfl) (by kernel_rfl)) ?_
  intro W base args ds gs before hval0 hW hcnd _
  have hval : ∀ (j : Nat) t v, Try.f5.params[j]? = some t → args[j]? = some v → Value.okWide Try.prog W .any base t v := hval0
  have hW' := hW
  obtain ⟨p, q, hA0, hV, rfl, hfz, hnd⟩ := hW
  have hA : DataW.TrodAll enc Try.prog W 0 (fun _ => true) true Try.f5.params.toList args.toList ds p := hA0
  rw [Try.params5] at hA hval
  obtain ⟨v0, vs0, d0, ds0, p0, q0, hargs, rfl, rfl, h0, r0⟩ := trodAll_cons hA
  obtain ⟨v1, vs1, d1, ds1, p1, q1, rfl, rfl, rfl, h1, r1⟩ := trodAll_cons r0
  obtain ⟨rfl, rfl, rfl⟩ := trodAll_nil r1
  obtain rfl : args = #[v0, v1] := by cases args; simp_all
  obtain ⟨rfl, rfl⟩ := trodVars_none hV
  obtain ⟨a0, rfl, rfl, rfl, w0⟩ := open_int Try.underlying3 (hval 0 3 v0 rfl rfl) h0
  obtain ⟨a1, rfl, rfl, rfl, w1⟩ := open_int Try.underlying3 (hval 1 3 v1 rfl rfl) h1
  clear hA0 hval0
  refine (lens_walk a0 a1 W).mono fun e W' ⟨he, bel⟩ => ?_
  subst he
  exact ⟨_, rfl, _, _, _, [], _, [], hW', trodAll_mk1 (shut_bool Try.underlying4 _), (trodAll_cons_mk (shut_int Try.underlying3 w0) (trodAll_cons_mk (shut_int Try.underlying3 w1) trodAll_mk0)), rfl, bel.frame _, fun h => by cases h⟩

/-- THE STATEMENT. -/
theorem variLens_holds : Rows.VariLensSaid :=
  OpenClaim.holds_of_wide 5 Try.f5 rfl rfl rfl rfl rfl rfl rfl ⟨rfl, rfl, rfl, rfl, rfl⟩ rfl rfl rfl rfl rfl (by kernel_rfl) Try.func5 (by kernel_rfl)
    (of_decide_eq_true (by kernel_rfl)) (by unfold Func.isWrapper; first | (rw [if_pos (by decide +kernel)]; kernel_rfl) | (rw [if_neg (by decide +kernel)]; exact ⟨rfl, rfl⟩))
    (fun os started H enc _ => variLens_lifted os started H enc)
#print axioms variLens_holds
end Go.Proofs.Ytekcjldkdmokpaa
