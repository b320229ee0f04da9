/-
  The Go function lexiphanelaw5.FnvTurned returns true for every text and every byte: bytes of which the last one is turned have another name.
  No condition: whatever the input, in whatever memory; the arguments read as before.
-/
import Derived.Test.YtpadfoodhigidaaFnv
import Derived.Deep.RegionWith
import Derived.Deep.RegionLaw
import Derived.Deep.RegionHeldLaw
import Derived.BigRegion
import Derived.ShutString
namespace Go.Proofs.Ytpadfoodhigidaa
open Go.ChangeShapes Go.WideShapes Go.ChangeAt Go.RowKit
open Go.ChangeMaps (open_string shut_string)

/-- A row of one byte, wherever it is, as a text. -/
theorem conv_at (x : Nat) (w : World) (n : Nat) (h : w.heap[n]? = some (.cells #[.int .u8 (x : Int)] 5 (0, 0))) :
    (convert 32 9 (.slice (some ⟨n, 0, none⟩) 1 1)).run Try.prog w = .ok (.string (bytesOf [x])) w := by
  rw [run_convert_bytes_arg (P := Try.prog) w 32 5 Try.underlying32 Try.underlying5 n 0 1 1 [(x : Int)] rfl (fun i hi => by
    obtain rfl : i = 0 := by omega
    rw [Nat.zero_add, cell_of_row _ _ _ _ _ _ h]
    rfl) 9 Try.underlying9]
  rw [show strOfNums [(x : Int)] = bytesOf [x] from bytesOf_strs [x]]

theorem conv_now (x : Nat) (w : World) :
    (convert 32 9 (.slice (some ⟨w.heap.size, 0, none⟩) 1 1)).run Try.prog (w.alloc (.cells #[.int .u8 (x : Int)] 5)) = .ok (.string (bytesOf [x])) (w.alloc (.cells #[.int .u8 (x : Int)] 5)) :=
  conv_at x _ _ (heap_alloc_new w _)

theorem conv_drew (x : Nat) (w : World) :
    (convert 32 9 (.slice (some ⟨w.heap.size, 0, none⟩) 1 1)).run Try.prog (w.alloc (.cells #[.int .u8 (x : Int)] 5)).drew = .ok (.string (bytesOf [x])) (w.alloc (.cells #[.int .u8 (x : Int)] 5)).drew :=
  conv_at x _ _ (heap_alloc_new w _)

theorem of_over (b : ByteArray) (hb : b.size ≤ 140737488351232) (w0 w : World) (h0 : Below w0.heap.size w0 w) :
    Calls Try.prog 11 #[.string b] w fun e w' => e = .returned (.int .u64 (fnv b : Nat)) ∧ Below w0.heap.size w0 w' ∧ ∀ (n : Nat) (o : Obj), w.heap[n]? = some o → w'.heap[n]? = some o := by
  refine (of_any b hb w).mono ?_
  rintro e w' ⟨rfl, h⟩
  exact ⟨rfl, below_more h0 h, fun n o hn => (h.block n (Array.getElem?_eq_some_iff.1 hn).1).trans hn⟩

/-- The text with its last byte turned. -/
def turned (b : ByteArray) (k y : Nat) : ByteArray := b.extract 0 k ++ bytesOf [y]

theorem turned_size (b : ByteArray) (k y : Nat) (hk : k < b.size) : (turned b k y).size ≤ b.size := by
  rw [turned, ByteArray.size_append, ByteArray.size_extract, bytesOf_size]
  simp
  omega

theorem nums_turned (b : ByteArray) (k y : Nat) (hy : y < 256) : nums (turned b k y) = (nums b).take k ++ [y] := by
  rw [turned, nums_append, nums_extract, nums_bytesOf _ (by simpa using hy), List.drop_zero]
  rfl

theorem turned_ne (b : ByteArray) (k c y : Nat) (hk : k < b.size) (hl : b.size = k + 1) (hc : (b[k]'hk).toNat = c) (hy : y < 256) (h0 : y ≠ 0) : fnv b ≠ fnv (turned b k (c ^^^ y)) := by
  intro h
  have hc8 : c < 256 := by rw [← hc]; exact UInt8.toNat_lt _
  have hx : c ^^^ y < 256 := Nat.xor_lt_two_pow (n := 8) hc8 hy
  have e : nums b = (nums b).take k ++ [c] := by
    rw [← hc, ← take_nums b k hk, ← hl, take_all]
  unfold fnv at h
  rw [nums_turned b k _ hx] at h
  rw [e] at h
  rw [← e] at h
  rw [show fsum 14695981039346656037 (nums b) = fsum 14695981039346656037 ((nums b).take k ++ [c]) from congrArg _ e] at h
  rw [fsum_append, fsum_append, fsum_cons, fsum_cons, fsum_nil, fsum_nil] at h
  have := fstep_inj _ _ _ (fsum_lt _ _ (by decide)) hc8 hx h
  have h2 : c ^^^ 0 = c ^^^ y := by rw [Nat.xor_zero]; exact this
  exact h0 (fxor_left_inj h2).symm

set_option maxRecDepth 20000 in
set_option maxHeartbeats 4000000 in
theorem turned_walk (b : ByteArray) (y : Int) (hy : 0 ≤ y ∧ y < 256) (w : World) : Calls Try.prog 4 #[.string b, .int .u8 y] w fun e w' => e = .returned (.bool true) ∧ Below w.heap.size w w' := by
  obtain ⟨y, rfl⟩ := Int.eq_ofNat_of_zero_le hy.1
  by_cases hl : 1 ≤ b.size ∧ b.size ≤ 1000 ∧ 1 ≤ y
  · obtain ⟨hb1, hb2, hy1⟩ := hl
    obtain ⟨k, hkk⟩ : ∃ k : Nat, b.size = k + 1 := ⟨b.size - 1, by omega⟩
    have hk : k < b.size := by omega
    have hix := index_at b k hk
    obtain ⟨c, hcc⟩ : ∃ c, c = (b[k]'hk).toNat := ⟨_, rfl⟩
    have hc : c < 256 := by rw [hcc]; exact UInt8.toNat_lt _
    have hne := turned_ne b k c y hk hkk hcc.symm (by omega) (by omega)
    have hsz := turned_size b k (c ^^^ y) hk
    rw [← hcc] at hix
    clear hcc
    have hxor := u8_xor_nat c y hc (by omega)
    have hy0 : ((y : Int) == 0) = false := beq_false_of_ne (by omega)
    have hsh : ∀ w : World, (Instr.slice 9 (.string b) none (some (.int .i64 (k : Int))) none).run Try.prog w = .ok (.string (b.extract 0 k)) w := fun w => by
      have := run_slice_string_h (P := Try.prog) w 9 b Try.underlying9 .i64 (k : Int) (by omega) (by omega)
      rw [this]
      rfl
    have hlen : IntKind.i64.wrap ((b.size : Int) - 1) = (k : Int) := by rw [IntKind.wrap_i64]; omega
    have hle2 : wrap64 ((b.size : Int) - 1) = (k : Int) := by rw [IntWalk.wrap64_in _ ⟨by omega, by omega⟩]; omega
    have hle3 : (b.size : Int) - 1 = (k : Int) := by omega
    clear hkk
    have hcv := conv_now (c ^^^ y)
    have hcd := conv_drew (c ^^^ y)
    have ha1 : ∀ w : World, (Op.stringOp .add (b.extract 0 k) (bytesOf [c ^^^ y])).run Try.prog w = .ok (.string (turned b k (c ^^^ y))) w := fun w =>
      run_string_add_sum (P := Try.prog) (w := w) _ _ (by rw [ByteArray.size_extract, bytesOf_size]; simp; omega)
    have hne2 : ((fnv b : Int) == (fnv (turned b k (c ^^^ y)) : Int)) = false := beq_false_of_ne (by omega)
    have hne3 : ((fnv b : Int) != (fnv (turned b k (c ^^^ y)) : Int)) = true := by rw [bne, hne2]; rfl
    clear hne2
    go_enter Try.func4, Try.ntmps4
    go_wp2_with (go_at_call 7; refine (alive_any _).mono ?_; rintro e w1 ⟨rfl, hb1⟩)
    go_region_held_law (fun w' => Below w.heap.size w w') (((repeat refine Below.drew ?_); first | assumption | (refine Below.alloc ?_ ?_ _ <;> first | assumption | (exact Below.size (by assumption))))) (first
      | (have _h := later; go_at_call 11; refine (of_over (turned b k (c ^^^ y)) (by omega) w _ (by assumption)).mono ?_; rintro e w3 ⟨rfl, hb3, hk3⟩)
      | (go_at_call 11; refine (of_over b (by omega) w _ (by assumption)).mono ?_; rintro e w2 ⟨rfl, hw2, hk2⟩; (first | have hkc := conv_at (c ^^^ y) w2 w1.heap.size (hk2 _ _ (heap_alloc_new w1 _)) | skip); have later : True := trivial))
    all_goals
      go_wp2
      go_ret
      exact ⟨rfl, by assumption⟩
  · have hf : b.size < 1 ∨ 1000 < b.size ∨ (1 ≤ b.size ∧ b.size ≤ 1000 ∧ ((y : Int) == 0) = true) := by
      rcases (show b.size < 1 ∨ 1000 < b.size ∨ (1 ≤ b.size ∧ b.size ≤ 1000 ∧ y = 0) by omega) with h | h | ⟨h1, h2, rfl⟩
      · exact .inl h
      · exact .inr (.inl h)
      · exact .inr (.inr ⟨h1, h2, rfl⟩)
    rcases hf with h1 | h1 | ⟨h1, h2, h3⟩
    all_goals
      go_enter Try.func4, Try.ntmps4
      go_wp2_with (go_at_call 7; refine (alive_any _).mono ?_; rintro e w1 ⟨rfl, hb1⟩)
      go_ret
      exact ⟨rfl, hb1⟩

set_option linter.unusedVariables false
theorem fnvTurned_own : ownKnob Try.prog.godebug = none := by kernel_rfl

set_option maxRecDepth 100000 in
theorem fnvTurned_lifted (os : Os) (started : os.Started) (H : Type) (enc : TypeId × Value → H) :
    ReturnsInHanded {} Try.checked os 4 .any (Rows.fnvTurnedSpec.pre6 enc Try.prog Try.f4 Rows.fnvTurnedRow.domain false) (Rows.fnvTurnedSpec.post enc Try.prog Try.f4 false true false false) := by
  refine returnsInHanded_of_change (C := Try.checked) fnvTurned_own started (by kernel_rfl) Try.func4
    (ChangeSpec.witness6 (enc := enc) (C := Try.checked) false ⟨#[], #[.string ByteArray.empty, .int .u8 0], []⟩ 8 (by kernel_rfl) (by kernel_rfl) (by kernel_rfl) (by kernel_rfl)) ?_
  intro W base args ds gs before hval0 hW hcnd _
  have hval : ∀ (j : Nat) t v, Try.f4.params[j]? = some t → args[j]? = some v → Value.okWide Try.prog W .any base t v := hval0
  have hW' := hW
  obtain ⟨p, q, hA0, hV, rfl, hfz, hnd⟩ := hW
  have hA : DataW.TrodAll enc Try.prog W 0 (fun _ => true) true Try.f4.params.toList args.toList ds p := hA0
  rw [Try.params4] at hA hval
  obtain ⟨v0, vs0, d0, ds0, p0, q0, hargs, rfl, rfl, h0, r0⟩ := trodAll_cons hA
  obtain ⟨v1, vs1, d1, ds1, p1, q1, rfl, rfl, rfl, h1, r1⟩ := trodAll_cons r0
  obtain ⟨rfl, rfl, rfl⟩ := trodAll_nil r1
  obtain rfl : args = #[v0, v1] := by cases args; simp_all
  obtain ⟨rfl, rfl⟩ := trodVars_none hV
  obtain ⟨a0, rfl, rfl, rfl, w0⟩ := open_string Try.underlying9 (hval 0 9 v0 rfl rfl) h0
  obtain ⟨a1, rfl, rfl, rfl, w1⟩ := open_int Try.underlying5 (hval 1 5 v1 rfl rfl) h1
  clear hA0 hval0
  refine (turned_walk a0 a1 (byte_of w1) W).mono fun e W' ⟨he, bel⟩ => ?_
  subst he
  exact ⟨_, rfl, _, _, _, [], _, [], hW', trodAll_mk1 (shut_bool Try.underlying4 _), (trodAll_cons_mk (shut_string Try.underlying9 w0) (trodAll_cons_mk (shut_int Try.underlying5 w1) trodAll_mk0)), rfl, bel.frame _, fun h => by cases h⟩

/-- THE STATEMENT. -/
theorem fnvTurned_holds : Rows.FnvTurnedSaid :=
  OpenClaim.holds_of_wide 4 Try.f4 rfl rfl rfl rfl rfl rfl rfl ⟨rfl, rfl, rfl, rfl, rfl⟩ rfl rfl rfl rfl rfl (by kernel_rfl) Try.func4 (by kernel_rfl)
    (of_decide_eq_true (by kernel_rfl)) (by unfold Func.isWrapper; first | (rw [if_pos (by decide +kernel)]; kernel_rfl) | (rw [if_neg (by decide +kernel)]; exact ⟨rfl, rfl⟩))
    (fun os started H enc _ => fnvTurned_lifted os started H enc)
#print axioms fnvTurned_holds
end Go.Proofs.Ytpadfoodhigidaa
