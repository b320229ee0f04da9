/-
  The Go function lexiphanelaw5.FnvSteps returns true for every text and every byte: one byte more is one step more.
  No condition: whatever the input, in whatever memory; the arguments read as before.
-/
import Derived.Test.YtpadfoodhigidaaFnv
import Derived.Deep.RegionWith
import Derived.Deep.RegionLaw
import Derived.Deep.RegionHeldLaw
import Derived.BigRegion
import Derived.ShutString
namespace Go.Proofs.Ytpadfoodhigidaa
open Go.ChangeShapes Go.WideShapes Go.ChangeAt Go.RowKit
open Go.ChangeMaps (open_string shut_string)

/-- A row of one byte, wherever it is, as a text. -/
theorem conv_at (x : Nat) (w : World) (n : Nat) (h : w.heap[n]? = some (.cells #[.int .u8 (x : Int)] 5 (0, 0))) :
    (convert 32 9 (.slice (some ⟨n, 0, none⟩) 1 1)).run Try.prog w = .ok (.string (bytesOf [x])) w := by
  rw [run_convert_bytes_arg (P := Try.prog) w 32 5 Try.underlying32 Try.underlying5 n 0 1 1 [(x : Int)] rfl (fun i hi => by
    obtain rfl : i = 0 := by omega
    rw [Nat.zero_add, cell_of_row _ _ _ _ _ _ h]
    rfl) 9 Try.underlying9]
  rw [show strOfNums [(x : Int)] = bytesOf [x] from bytesOf_strs [x]]

theorem conv_now (x : Nat) (w : World) :
    (convert 32 9 (.slice (some ⟨w.heap.size, 0, none⟩) 1 1)).run Try.prog (w.alloc (.cells #[.int .u8 (x : Int)] 5)) = .ok (.string (bytesOf [x])) (w.alloc (.cells #[.int .u8 (x : Int)] 5)) :=
  conv_at x _ _ (heap_alloc_new w _)

theorem conv_drew (x : Nat) (w : World) :
    (convert 32 9 (.slice (some ⟨w.heap.size, 0, none⟩) 1 1)).run Try.prog (w.alloc (.cells #[.int .u8 (x : Int)] 5)).drew = .ok (.string (bytesOf [x])) (w.alloc (.cells #[.int .u8 (x : Int)] 5)).drew :=
  conv_at x _ _ (heap_alloc_new w _)

theorem of_over (b : ByteArray) (hb : b.size ≤ 140737488351232) (w0 w : World) (h0 : Below w0.heap.size w0 w) :
    Calls Try.prog 11 #[.string b] w fun e w' => e = .returned (.int .u64 (fnv b : Nat)) ∧ Below w0.heap.size w0 w' ∧ ∀ (n : Nat) (o : Obj), w.heap[n]? = some o → w'.heap[n]? = some o := by
  refine (of_any b hb w).mono ?_
  rintro e w' ⟨rfl, h⟩
  exact ⟨rfl, below_more h0 h, fun n o hn => (h.block n (Array.getElem?_eq_some_iff.1 hn).1).trans hn⟩

theorem fnv_step (b : ByteArray) (c : Nat) (hc : c < 256) : fnv (b ++ bytesOf [c]) = fstep (fnv b) c := by
  rw [fnv_append, nums_bytesOf _ (by simpa using hc), fsum_cons, fsum_nil]

set_option maxRecDepth 20000 in
set_option maxHeartbeats 4000000 in
theorem steps_walk (b : ByteArray) (y : Int) (hy : 0 ≤ y ∧ y < 256) (w : World) : Calls Try.prog 5 #[.string b, .int .u8 y] w fun e w' => e = .returned (.bool true) ∧ Below w.heap.size w w' := by
  obtain ⟨c, rfl⟩ := Int.eq_ofNat_of_zero_le hy.1
  by_cases hl : b.size ≤ 1000
  · have hc : c < 256 := by omega
    have hcv := conv_now c
    have hcd := conv_drew c
    have ha1 : ∀ w : World, (Op.stringOp .add b (bytesOf [c])).run Try.prog w = .ok (.string (b ++ bytesOf [c])) w := fun w =>
      run_string_add_sum (P := Try.prog) (w := w) _ _ (by rw [bytesOf_size]; simp; omega)
    have hz : (b ++ bytesOf [c]).size ≤ 140737488351232 := by rw [ByteArray.size_append, bytesOf_size]; simp; omega
    have hxo := u64_xor_nat (fnv b) c (fnv_lt b) (by omega)
    have hst := step_u64 (fnv b) c
    rw [← fnv_step b c hc] at hst
    go_enter Try.func5, Try.ntmps5
    go_wp2_with (first
      | (have _h := later; go_at_call 11; refine (of_any b (by omega) _).mono ?_; rintro e w3 ⟨rfl, hb3⟩)
      | (go_at_call 11; refine (of_any (b ++ bytesOf [c]) hz _).mono ?_; rintro e w2 ⟨rfl, hb2⟩; have later : True := trivial)
      | (go_at_call 7; refine (alive_any _).mono ?_; rintro e w1 ⟨rfl, hb1⟩))
    go_ret
    exact ⟨rfl, below_more (below_more (hb1.alloc hb1.size _) hb2) hb3⟩
  · go_enter Try.func5, Try.ntmps5
    go_wp2_with (go_at_call 7; refine (alive_any _).mono ?_; rintro e w1 ⟨rfl, hb1⟩)
    go_ret
    exact ⟨rfl, hb1⟩

set_option linter.unusedVariables false
theorem fnvSteps_own : ownKnob Try.prog.godebug = none := by kernel_rfl

set_option maxRecDepth 100000 in
theorem fnvSteps_lifted (os : Os) (started : os.Started) (H : Type) (enc : TypeId × Value → H) :
    ReturnsInHanded {} Try.checked os 5 .any (Rows.fnvStepsSpec.pre6 enc Try.prog Try.f5 Rows.fnvStepsRow.domain false) (Rows.fnvStepsSpec.post enc Try.prog Try.f5 false true false false) := by
  refine returnsInHanded_of_change (C := Try.checked) fnvSteps_own started (by kernel_rfl) Try.func5
    (ChangeSpec.witness6 (enc := enc) (C := Try.checked) false ⟨#[], #[.string ByteArray.empty, .int .u8 0], []⟩ 8 (by kernel_rfl) (by kernel_rfl) (by kernel_rfl) (by kernel_rfl)) ?_
  intro W base args ds gs before hval0 hW hcnd _
  have hval : ∀ (j : Nat) t v, Try.f5.params[j]? = some t → args[j]? = some v → Value.okWide Try.prog W .any base t v := hval0
  have hW' := hW
  obtain ⟨p, q, hA0, hV, rfl, hfz, hnd⟩ := hW
  have hA : DataW.TrodAll enc Try.prog W 0 (fun _ => true) true Try.f5.params.toList args.toList ds p := hA0
  rw [Try.params5] at hA hval
  obtain ⟨v0, vs0, d0, ds0, p0, q0, hargs, rfl, rfl, h0, r0⟩ := trodAll_cons hA
  obtain ⟨v1, vs1, d1, ds1, p1, q1, rfl, rfl, rfl, h1, r1⟩ := trodAll_cons r0
  obtain ⟨rfl, rfl, rfl⟩ := trodAll_nil r1
  obtain rfl : args = #[v0, v1] := by cases args; simp_all
  obtain ⟨rfl, rfl⟩ := trodVars_none hV
  obtain ⟨a0, rfl, rfl, rfl, w0⟩ := open_string Try.underlying9 (hval 0 9 v0 rfl rfl) h0
  obtain ⟨a1, rfl, rfl, rfl, w1⟩ := open_int Try.underlying5 (hval 1 5 v1 rfl rfl) h1
  clear hA0 hval0
  refine (steps_walk a0 a1 (byte_of w1) W).mono fun e W' ⟨he, bel⟩ => ?_
  subst he
  exact ⟨_, rfl, _, _, _, [], _, [], hW', trodAll_mk1 (shut_bool Try.underlying4 _), (trodAll_cons_mk (shut_string Try.underlying9 w0) (trodAll_cons_mk (shut_int Try.underlying5 w1) trodAll_mk0)), rfl, bel.frame _, fun h => by cases h⟩

/-- THE STATEMENT. -/
theorem fnvSteps_holds : Rows.FnvStepsSaid :=
  OpenClaim.holds_of_wide 5 Try.f5 rfl rfl rfl rfl rfl rfl rfl ⟨rfl, rfl, rfl, rfl, rfl⟩ rfl rfl rfl rfl rfl (by kernel_rfl) Try.func5 (by kernel_rfl)
    (of_decide_eq_true (by kernel_rfl)) (by unfold Func.isWrapper; first | (rw [if_pos (by decide +kernel)]; kernel_rfl) | (rw [if_neg (by decide +kernel)]; exact ⟨rfl, rfl⟩))
    (fun os started H enc _ => fnvSteps_lifted os started H enc)
#print axioms fnvSteps_holds
end Go.Proofs.Ytpadfoodhigidaa
