/-
  The Go function lexiphanelaw4.CrcResets returns true for every two texts: begun anew a sum is that of what comes then.
  No condition: whatever the input, in whatever memory; the arguments read as before.
-/
import Derived.Test.YtipmihdnfbhmkaaCrc
import Derived.ShutString
import Derived.SizedLaws
namespace Go.Proofs.Ytipmihdnfbhmkaa
open Go.ChangeShapes Go.WideShapes Go.ChangeAt Go.RowKit
open Go.ChangeMaps (open_string shut_string)

theorem add_fresh {w : World} {p : Nat} (h : SumAt w p 0) (b : ByteArray) (hb : b.size ≤ 140737488351232) :
    Calls Try.prog 10 #[.pointer (some ⟨p, 0, none⟩), .string b] w fun e w' => e = .returned (.tuple #[]) ∧ SumAt w' p (crc b) ∧ Kept (· = p) w w' := by
  rw [← more_zero]
  exact add_any h b hb

theorem add_more {w : World} {p : Nat} {a : ByteArray} (h : SumAt w p (crc a)) (b : ByteArray) (hb : b.size ≤ 140737488351232) :
    Calls Try.prog 10 #[.pointer (some ⟨p, 0, none⟩), .string b] w fun e w' => e = .returned (.tuple #[]) ∧ SumAt w' p (crc (a ++ b)) ∧ Kept (· = p) w w' := by
  rw [← more_crc]
  exact add_any h b hb

set_option maxRecDepth 20000 in
set_option maxHeartbeats 2000000 in
theorem resets_walk (a b : ByteArray) (ha : a.size ≤ 140737488351232) (hb : b.size ≤ 140737488351232) (w : World) : Calls Try.prog 7 #[.string a, .string b] w fun e w' => e = .returned (.bool true) ∧ Below w.heap.size w w' := by
  by_cases hl : a.size + b.size ≤ 1000
  · have hsz : (b ++ a).size ≤ 140737488351232 := by rw [ByteArray.size_append]; omega
    have hadd : ∀ w : World, (Op.stringOp .add b a).run Try.prog w = .ok (.string (b ++ a)) w := fun w =>
      run_string_add_sum (P := Try.prog) (w := w) _ _ (by omega)
    go_enter Try.func7, Try.ntmps7
    go_wp2_with (first
      | (have _h := later3; go_at_call 13; refine (of_any (b ++ a) hsz _).mono ?_; rintro e w10 ⟨rfl, hb10⟩)
      | (have _h := later3; go_at_call 11; refine (now_any hs9).mono ?_; rintro e w10 ⟨rfl, rfl⟩)
      | (have _h := later2; go_at_call 13; refine (of_any b (by omega) _).mono ?_; rintro e w9 ⟨rfl, hb9⟩; have hs9 := hs8.below hb9 hs8.lt; have later3 : True := trivial)
      | (have _h := later1; go_at_call 13; refine (of_any a (by omega) _).mono ?_; rintro e w8 ⟨rfl, hb8⟩; have hs8 := hs7.below hb8 hs7.lt; have later2 : True := trivial)
      | (have _h := hs4; go_at_call 10; refine (add_more hs4 a (by omega)).mono ?_; rintro e w7 ⟨rfl, hs7, hk7⟩; have later1 : True := trivial)
      | (have _h := hs4; go_at_call 11; refine (now_any hs4).mono ?_; rintro e w5 ⟨rfl, rfl⟩)
      | (have _h := hs3; go_at_call 10; refine (add_fresh hs3 b (by omega)).mono ?_; rintro e w4 ⟨rfl, hs4, hk4⟩)
      | (go_at_call 14; refine (reset_any hs2).mono ?_; rintro e w3 ⟨rfl, hs3, hk3⟩)
      | (have _h := hs2; go_at_call 11; refine (now_any hs2).mono ?_; rintro e w22 ⟨rfl, rfl⟩)
      | (have _h := hb1; go_at_call 10; refine (add_fresh (SumAt.new w1) a (by omega)).mono ?_; rintro e w2 ⟨rfl, hs2, hk2⟩)
      | (go_at_call 9; refine (alive_any _).mono ?_; rintro e w1 ⟨rfl, hb1⟩))
    go_ret
    have hp := hb1.size
    exact ⟨rfl, below_more (below_more (below_more (below_then (below_then (below_then (below_then (hb1.alloc hb1.size _) hk2 hp) hk3 hp) hk4 hp) hk7 hp) hb8) hb9) hb10⟩
  · go_enter Try.func7, Try.ntmps7
    go_wp2_with (go_at_call 9; refine (alive_any _).mono ?_; rintro e w1 ⟨rfl, hb1⟩)
    go_ret
    exact ⟨rfl, hb1⟩

set_option linter.unusedVariables false
theorem crcResets_own : ownKnob Try.prog.godebug = none := by kernel_rfl

set_option maxRecDepth 100000 in
theorem crcResets_lifted (os : Os) (started : os.Started) (H : Type) (enc : TypeId × Value → H) :
    ReturnsInHanded {} Try.checked os 7 .any (Rows.crcResetsSpec.pre6 enc Try.prog Try.f7 Rows.crcResetsRow.domain false) (Rows.crcResetsSpec.post enc Try.prog Try.f7 false true false false) := by
  refine returnsInHanded_of_change_sized (C := Try.checked) crcResets_own started (by kernel_rfl) Try.func7
    (ChangeSpec.witness6 (enc := enc) (C := Try.checked) false ⟨#[], #[.string ByteArray.empty, .string ByteArray.empty], []⟩ 8 (by kernel_rfl) (by kernel_rfl) (by kernel_rfl) (by kernel_rfl)) ?_
  intro W base args ds gs before hval0 hW hcnd hsz0 _
  have hsz : (DataW.weightsEach Try.prog (Try.f7.params.toList ++ Rows.crcResetsSpec.plain.varTypes Try.prog) (ds ++ gs)).all (· ≤ reachBytes) = true := hsz0
  have hval : ∀ (j : Nat) t v, Try.f7.params[j]? = some t → args[j]? = some v → Value.okWide Try.prog W .any base t v := hval0
  have hW' := hW
  obtain ⟨p, q, hA0, hV, rfl, hfz, hnd⟩ := hW
  have hA : DataW.TrodAll enc Try.prog W 0 (fun _ => true) true Try.f7.params.toList args.toList ds p := hA0
  rw [Try.params7] at hA hval hsz
  obtain ⟨v0, vs0, d0, ds0, p0, q0, hargs, rfl, rfl, h0, r0⟩ := trodAll_cons hA
  obtain ⟨v1, vs1, d1, ds1, p1, q1, rfl, rfl, rfl, h1, r1⟩ := trodAll_cons r0
  obtain ⟨rfl, rfl, rfl⟩ := trodAll_nil r1
  obtain rfl : args = #[v0, v1] := by cases args; simp_all
  obtain ⟨rfl, rfl⟩ := trodVars_none hV
  obtain ⟨a0, rfl, rfl, rfl, w0⟩ := open_string Try.underlying9 (hval 0 9 v0 rfl rfl) h0
  obtain ⟨a1, rfl, rfl, rfl, w1⟩ := open_string Try.underlying9 (hval 1 9 v1 rfl rfl) h1
  clear hA0 hval0
  have s0 : a0.size ≤ 140737488351232 := by have h := sized_string hsz (j := 0) (t := 9) rfl rfl; rw [Array.length_toList] at h; exact h
  have s1 : a1.size ≤ 140737488351232 := by have h := sized_string hsz (j := 1) (t := 9) rfl rfl; rw [Array.length_toList] at h; exact h
  refine (resets_walk a0 a1 s0 s1 W).mono fun e W' ⟨he, bel⟩ => ?_
  subst he
  exact ⟨_, rfl, _, _, _, [], _, [], hW', trodAll_mk1 (shut_bool Try.underlying4 _), (trodAll_cons_mk (shut_string Try.underlying9 w0) (trodAll_cons_mk (shut_string Try.underlying9 w1) trodAll_mk0)), rfl, bel.frame _, fun h => by cases h⟩

/-- THE STATEMENT. -/
theorem crcResets_holds : Rows.CrcResetsSaid :=
  OpenClaim.holds_of_wide 7 Try.f7 rfl rfl rfl rfl rfl rfl rfl ⟨rfl, rfl, rfl, rfl, rfl⟩ rfl rfl rfl rfl rfl (by kernel_rfl) Try.func7 (by kernel_rfl)
    (of_decide_eq_true (by kernel_rfl)) (by unfold Func.isWrapper; first | (rw [if_pos (by decide +kernel)]; kernel_rfl) | (rw [if_neg (by decide +kernel)]; exact ⟨rfl, rfl⟩))
    (fun os started H enc _ => crcResets_lifted os started H enc)
#print axioms crcResets_holds
end Go.Proofs.Ytipmihdnfbhmkaa
