/-
  The Go function lexiphanelaw4.CrcEnds returns true for every two texts: bytes, and their sum behind them, always have one sum together.
  No condition: whatever the input, in whatever memory; the arguments read as before.
-/
import Derived.Test.YtipmihdnfbhmkaaCrc
import Derived.ShutString
import Derived.SizedLaws
namespace Go.Proofs.Ytipmihdnfbhmkaa
open Go.ChangeShapes Go.WideShapes Go.ChangeAt Go.RowKit
open Go.ChangeMaps (open_string shut_string)

/-- Four bytes that a sum ends in. -/
def tail4 (x : Nat) : ByteArray := bytesOf [x % 256, x / 256 % 256, x / 65536 % 256, x / 16777216]

theorem tail4_size (x : Nat) : (tail4 x).size = 4 := by rw [tail4, bytesOf_size]; rfl

theorem crc_ends (s : ByteArray) : crc (s ++ tail4 (crc s)) = halves 32 4294967295 ^^^ 4294967295 := by
  have hl := csum_lt _ (nums_byte s) 4294967295 (by decide)
  have e : csum 4294967295 (nums s) = crc s ^^^ 4294967295 := by
    unfold crc
    rw [Nat.xor_assoc, Nat.xor_self, Nat.xor_zero]
  have h4 : nums (tail4 (crc s)) = [crc s % 256, crc s / 256 % 256, crc s / 65536 % 256, crc s / 16777216 % 256] := by
    have := crc_lt s
    rw [tail4, nums_bytesOf _ (by intro x hx; simp at hx; omega), show crc s / 16777216 % 256 = crc s / 16777216 by omega]
  rw [crc, nums_append, csum_append, e, h4, csum_end _ (crc_lt s)]

set_option maxRecDepth 20000 in
set_option maxHeartbeats 1000000 in
theorem end_any (s : ByteArray) (hs : s.size ≤ 140737488351232) (w : World) : Calls Try.prog 15 #[.string s] w fun e w' => e = .returned (.string (s ++ tail4 (crc s))) ∧ Below w.heap.size w w' := by
  have hl := crc_lt s
  have hadd : ∀ w : World, (Op.stringOp .add s (tail4 (crc s))).run Try.prog w = .ok (.string (s ++ tail4 (crc s))) w := fun w =>
    run_string_add_sum (P := Try.prog) (w := w) _ _ (by rw [tail4_size]; omega)
  have hcv : ∀ w : World, (convert 32 9 (.slice (some ⟨w.heap.size, 0, none⟩) 4 4)).run Try.prog (w.alloc (.cells #[.int .u8 ((crc s : Int) % 256), .int .u8 ((crc s : Int) / 256 % 256), .int .u8 ((crc s : Int) / 65536 % 256), .int .u8 ((crc s : Int) / 16777216)] 5)) = .ok (.string (tail4 (crc s))) (w.alloc (.cells #[.int .u8 ((crc s : Int) % 256), .int .u8 ((crc s : Int) / 256 % 256), .int .u8 ((crc s : Int) / 65536 % 256), .int .u8 ((crc s : Int) / 16777216)] 5)) := fun w =>
    conv_new w [crc s % 256, crc s / 256 % 256, crc s / 65536 % 256, crc s / 16777216] _ (by simp) 4 rfl
  go_enter Try.func15, Try.ntmps15
  go_wp2_with (go_at_call 13; refine (of_any s (by omega) _).mono ?_; rintro e w1 ⟨rfl, hb1⟩)
  go_ret
  exact ⟨rfl, hb1.alloc hb1.size _⟩

set_option maxRecDepth 20000 in
set_option maxHeartbeats 1000000 in
theorem ends_walk (a b : ByteArray) (ha : a.size ≤ 140737488351232) (hb : b.size ≤ 140737488351232) (w : World) : Calls Try.prog 6 #[.string a, .string b] w fun e w' => e = .returned (.bool true) ∧ Below w.heap.size w w' := by
  by_cases hl : a.size + b.size ≤ 1000
  · have h1 := crc_ends a
    have h2 := crc_ends b
    have z1 : (a ++ tail4 (crc a)).size ≤ 140737488351232 := by rw [ByteArray.size_append, tail4_size]; omega
    have z2 : (b ++ tail4 (crc b)).size ≤ 140737488351232 := by rw [ByteArray.size_append, tail4_size]; omega
    go_enter Try.func6, Try.ntmps6
    go_wp2_with (first
      | (have _h := hb4; go_at_call 13; refine (of_any _ z2 _).mono ?_; rintro e w5 ⟨rfl, hb5⟩)
      | (have _h := hb3; go_at_call 15; refine (end_any b (by omega) _).mono ?_; rintro e w4 ⟨rfl, hb4⟩)
      | (have _h := hb2; go_at_call 13; refine (of_any _ z1 _).mono ?_; rintro e w3 ⟨rfl, hb3⟩)
      | (go_at_call 15; refine (end_any a (by omega) _).mono ?_; rintro e w2 ⟨rfl, hb2⟩)
      | (go_at_call 9; refine (alive_any _).mono ?_; rintro e w1 ⟨rfl, hb1⟩))
    go_ret
    exact ⟨rfl, below_more (below_more (below_more (below_more hb1 hb2) hb3) hb4) hb5⟩
  · go_enter Try.func6, Try.ntmps6
    go_wp2_with (go_at_call 9; refine (alive_any _).mono ?_; rintro e w1 ⟨rfl, hb1⟩)
    go_ret
    exact ⟨rfl, hb1⟩

set_option linter.unusedVariables false
theorem crcEnds_own : ownKnob Try.prog.godebug = none := by kernel_rfl

set_option maxRecDepth 100000 in
theorem crcEnds_lifted (os : Os) (started : os.Started) (H : Type) (enc : TypeId × Value → H) :
    ReturnsInHanded {} Try.checked os 6 .any (Rows.crcEndsSpec.pre6 enc Try.prog Try.f6 Rows.crcEndsRow.domain false) (Rows.crcEndsSpec.post enc Try.prog Try.f6 false true false false) := by
  refine returnsInHanded_of_change_sized (C := Try.checked) crcEnds_own started (by kernel_rfl) Try.func6
    (ChangeSpec.witness6 (enc := enc) (C := Try.checked) false ⟨#[], #[.string ByteArray.empty, .string ByteArray.empty], []⟩ 8 (by kernel_rfl) (by kernel_rfl) (by kernel_rfl) (by kernel_rfl)) ?_
  intro W base args ds gs before hval0 hW hcnd hsz0 _
  have hsz : (DataW.weightsEach Try.prog (Try.f6.params.toList ++ Rows.crcEndsSpec.plain.varTypes Try.prog) (ds ++ gs)).all (· ≤ reachBytes) = true := hsz0
  have hval : ∀ (j : Nat) t v, Try.f6.params[j]? = some t → args[j]? = some v → Value.okWide Try.prog W .any base t v := hval0
  have hW' := hW
  obtain ⟨p, q, hA0, hV, rfl, hfz, hnd⟩ := hW
  have hA : DataW.TrodAll enc Try.prog W 0 (fun _ => true) true Try.f6.params.toList args.toList ds p := hA0
  rw [Try.params6] at hA hval hsz
  obtain ⟨v0, vs0, d0, ds0, p0, q0, hargs, rfl, rfl, h0, r0⟩ := trodAll_cons hA
  obtain ⟨v1, vs1, d1, ds1, p1, q1, rfl, rfl, rfl, h1, r1⟩ := trodAll_cons r0
  obtain ⟨rfl, rfl, rfl⟩ := trodAll_nil r1
  obtain rfl : args = #[v0, v1] := by cases args; simp_all
  obtain ⟨rfl, rfl⟩ := trodVars_none hV
  obtain ⟨a0, rfl, rfl, rfl, w0⟩ := open_string Try.underlying9 (hval 0 9 v0 rfl rfl) h0
  obtain ⟨a1, rfl, rfl, rfl, w1⟩ := open_string Try.underlying9 (hval 1 9 v1 rfl rfl) h1
  clear hA0 hval0
  have s0 : a0.size ≤ 140737488351232 := by have h := sized_string hsz (j := 0) (t := 9) rfl rfl; rw [Array.length_toList] at h; exact h
  have s1 : a1.size ≤ 140737488351232 := by have h := sized_string hsz (j := 1) (t := 9) rfl rfl; rw [Array.length_toList] at h; exact h
  refine (ends_walk a0 a1 s0 s1 W).mono fun e W' ⟨he, bel⟩ => ?_
  subst he
  exact ⟨_, rfl, _, _, _, [], _, [], hW', trodAll_mk1 (shut_bool Try.underlying4 _), (trodAll_cons_mk (shut_string Try.underlying9 w0) (trodAll_cons_mk (shut_string Try.underlying9 w1) trodAll_mk0)), rfl, bel.frame _, fun h => by cases h⟩

/-- THE STATEMENT. -/
theorem crcEnds_holds : Rows.CrcEndsSaid :=
  OpenClaim.holds_of_wide 6 Try.f6 rfl rfl rfl rfl rfl rfl rfl ⟨rfl, rfl, rfl, rfl, rfl⟩ rfl rfl rfl rfl rfl (by kernel_rfl) Try.func6 (by kernel_rfl)
    (of_decide_eq_true (by kernel_rfl)) (by unfold Func.isWrapper; first | (rw [if_pos (by decide +kernel)]; kernel_rfl) | (rw [if_neg (by decide +kernel)]; exact ⟨rfl, rfl⟩))
    (fun os started H enc _ => crcEnds_lifted os started H enc)
#print axioms crcEnds_holds
end Go.Proofs.Ytipmihdnfbhmkaa
