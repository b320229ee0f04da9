/-
  The Go function lexiphanelaw1.FaultSame returns true for every two codes and every two places: faults of the same code at the same place are the same fault, others are not; Must and Of tell the same; Code and At are what was handed to New.
  No condition: whatever the input, in whatever memory; the arguments read as before.
-/
import Derived.Test.YtdcinnoebendgaaRows
import Derived.WalkKit
import Derived.ProofKit
import Derived.OpenShut
import Derived.Below
import Derived.Deep.QuietTactic
import Derived.BigQuiet
import Derived.WalkSmall
import Derived.Handy
import Derived.RegionTactic
import Derived.Deep.RegionWith
import Derived.Deep.RegionHeldLaw
namespace Go.Proofs.Ytdcinnoebendgaa
open Go.ChangeShapes Go.WideShapes Go.ChangeAt Go.RowKit

@[go_sem] theorem as27 (v : Value) (w : World) : (Instr.typeAssert (.iface 27 v) 31 27 true).run Try.prog w = .ok (.tuple #[v, .bool true]) w := by kernel_rfl
@[go_sem] theorem as27m (v : Value) (w : World) : (Instr.typeAssert (.iface 27 v) 31 27 false).run Try.prog w = .ok v w := by kernel_rfl

theorem of_any (c a : Int) (w : World) :
    Calls Try.prog 7 #[.iface 27 (.agg #[.int .i64 c, .int .i64 a])] w fun e w' => e = .returned (.tuple #[.agg #[.int .i64 c, .int .i64 a], .bool true]) ∧ Below w.heap.size w w' := by
  go_enter Try.func7, Try.ntmps7
  go_wp2
  exact bodyPost_ret (v := .tuple #[.agg #[.int .i64 c, .int .i64 a], .bool true]) (by simp [results, Try.results7, go_sem]) rfl ⟨rfl, ((Below.refl _ _).alloc (Nat.le_refl _) _).alloc (by simp) _⟩

theorem must_any (c a : Int) (w : World) :
    Calls Try.prog 9 #[.iface 27 (.agg #[.int .i64 c, .int .i64 a])] w fun e w' => e = .returned (.agg #[.int .i64 c, .int .i64 a]) ∧ Below w.heap.size w w' := by
  go_enter Try.func9, Try.ntmps9
  go_wp2
  exact bodyPost_ret (v := .agg #[.int .i64 c, .int .i64 a]) (by simp [results, Try.results9, go_sem]) rfl ⟨rfl, (Below.refl _ _).alloc (Nat.le_refl _) _⟩

theorem code_any (c a : Int) (w : World) :
    Calls Try.prog 10 #[.iface 27 (.agg #[.int .i64 c, .int .i64 a])] w fun e w' => e = .returned (.int .i64 c) ∧ Below w.heap.size w w' := by
  go_enter Try.func10, Try.ntmps10
  go_wp2_with (go_at_call 7; refine (of_any _ _ _).mono ?_; rintro e w1 ⟨rfl, hb⟩)
  go_ret
  exact ⟨rfl, hb.trans ((Below.refl _ _).alloc hb.size _)⟩

/-- A code's name, as bytes. -/
def nameB (c : Int) : ByteArray :=
  if c = 0 then ⟨#[111, 107]⟩
  else if c = 1 then ⟨#[97, 114, 103]⟩
  else if c = 2 then ⟨#[109, 111, 114, 101]⟩
  else if c = 3 then ⟨#[102, 111, 114, 109]⟩
  else if c = 4 then ⟨#[114, 97, 110, 103, 101]⟩
  else if c = 5 then ⟨#[100, 105, 99, 116]⟩
  else if c = 6 then ⟨#[119, 114, 111, 110, 103]⟩
  else if c = 7 then ⟨#[115, 117, 109]⟩
  else if c = 8 then ⟨#[99, 111, 100, 101]⟩
  else if c = 9 then ⟨#[116, 111, 107, 101, 110]⟩
  else if c = 10 then ⟨#[115, 105, 122, 101]⟩
  else if c = 11 then ⟨#[115, 116, 97, 116, 101]⟩
  else if c = 12 then ⟨#[108, 101, 110, 103, 116, 104]⟩
  else if c = 13 then ⟨#[98, 101, 104, 105, 110, 100]⟩
  else ⟨#[101, 114, 114, 111, 114]⟩

theorem name_0 (w : World) : Calls Try.prog 6 #[.int .i64 0] w fun e w' => e = .returned (.string (nameB 0)) ∧ w' = w := by
  go_enter Try.func6, Try.ntmps6
  go_wp2
  go_ret
  exact ⟨rfl, rfl⟩

theorem name_1 (w : World) : Calls Try.prog 6 #[.int .i64 1] w fun e w' => e = .returned (.string (nameB 1)) ∧ w' = w := by
  go_enter Try.func6, Try.ntmps6
  go_wp2
  go_ret
  exact ⟨rfl, rfl⟩

theorem name_2 (w : World) : Calls Try.prog 6 #[.int .i64 2] w fun e w' => e = .returned (.string (nameB 2)) ∧ w' = w := by
  go_enter Try.func6, Try.ntmps6
  go_wp2
  go_ret
  exact ⟨rfl, rfl⟩

theorem name_3 (w : World) : Calls Try.prog 6 #[.int .i64 3] w fun e w' => e = .returned (.string (nameB 3)) ∧ w' = w := by
  go_enter Try.func6, Try.ntmps6
  go_wp2
  go_ret
  exact ⟨rfl, rfl⟩

theorem name_4 (w : World) : Calls Try.prog 6 #[.int .i64 4] w fun e w' => e = .returned (.string (nameB 4)) ∧ w' = w := by
  go_enter Try.func6, Try.ntmps6
  go_wp2
  go_ret
  exact ⟨rfl, rfl⟩

theorem name_5 (w : World) : Calls Try.prog 6 #[.int .i64 5] w fun e w' => e = .returned (.string (nameB 5)) ∧ w' = w := by
  go_enter Try.func6, Try.ntmps6
  go_wp2
  go_ret
  exact ⟨rfl, rfl⟩

theorem name_6 (w : World) : Calls Try.prog 6 #[.int .i64 6] w fun e w' => e = .returned (.string (nameB 6)) ∧ w' = w := by
  go_enter Try.func6, Try.ntmps6
  go_wp2
  go_ret
  exact ⟨rfl, rfl⟩

theorem name_7 (w : World) : Calls Try.prog 6 #[.int .i64 7] w fun e w' => e = .returned (.string (nameB 7)) ∧ w' = w := by
  go_enter Try.func6, Try.ntmps6
  go_wp2
  go_ret
  exact ⟨rfl, rfl⟩

theorem name_8 (w : World) : Calls Try.prog 6 #[.int .i64 8] w fun e w' => e = .returned (.string (nameB 8)) ∧ w' = w := by
  go_enter Try.func6, Try.ntmps6
  go_wp2
  go_ret
  exact ⟨rfl, rfl⟩

theorem name_9 (w : World) : Calls Try.prog 6 #[.int .i64 9] w fun e w' => e = .returned (.string (nameB 9)) ∧ w' = w := by
  go_enter Try.func6, Try.ntmps6
  go_wp2
  go_ret
  exact ⟨rfl, rfl⟩

theorem name_10 (w : World) : Calls Try.prog 6 #[.int .i64 10] w fun e w' => e = .returned (.string (nameB 10)) ∧ w' = w := by
  go_enter Try.func6, Try.ntmps6
  go_wp2
  go_ret
  exact ⟨rfl, rfl⟩

theorem name_11 (w : World) : Calls Try.prog 6 #[.int .i64 11] w fun e w' => e = .returned (.string (nameB 11)) ∧ w' = w := by
  go_enter Try.func6, Try.ntmps6
  go_wp2
  go_ret
  exact ⟨rfl, rfl⟩

theorem name_12 (w : World) : Calls Try.prog 6 #[.int .i64 12] w fun e w' => e = .returned (.string (nameB 12)) ∧ w' = w := by
  go_enter Try.func6, Try.ntmps6
  go_wp2
  go_ret
  exact ⟨rfl, rfl⟩

theorem name_13 (w : World) : Calls Try.prog 6 #[.int .i64 13] w fun e w' => e = .returned (.string (nameB 13)) ∧ w' = w := by
  go_enter Try.func6, Try.ntmps6
  go_wp2
  go_ret
  exact ⟨rfl, rfl⟩

theorem name_lo (c : Int) (h : c < 0) (w : World) : Calls Try.prog 6 #[.int .i64 c] w fun e w' => e = .returned (.string (nameB c)) ∧ w' = w := by
  have hn : nameB c = nameB (-1) := by unfold nameB; repeat rw [if_neg (by omega)]
  rw [hn]
  go_enter Try.func6, Try.ntmps6
  go_wp2
  go_ret
  exact ⟨rfl, rfl⟩

theorem name_hi (c : Int) (h : 13 < c) (w : World) : Calls Try.prog 6 #[.int .i64 c] w fun e w' => e = .returned (.string (nameB c)) ∧ w' = w := by
  have hn : nameB c = nameB (-1) := by unfold nameB; repeat rw [if_neg (by omega)]
  rw [hn]
  go_enter Try.func6, Try.ntmps6
  go_wp2
  go_ret
  exact ⟨rfl, rfl⟩

theorem name_any (c : Int) (w : World) :
    Calls Try.prog 6 #[.int .i64 c] w fun e w' => e = .returned (.string (nameB c)) ∧ w' = w := by
  by_cases h0 : c = 0
  · rw [h0]; exact name_0 w
  by_cases h1 : c = 1
  · rw [h1]; exact name_1 w
  by_cases h2 : c = 2
  · rw [h2]; exact name_2 w
  by_cases h3 : c = 3
  · rw [h3]; exact name_3 w
  by_cases h4 : c = 4
  · rw [h4]; exact name_4 w
  by_cases h5 : c = 5
  · rw [h5]; exact name_5 w
  by_cases h6 : c = 6
  · rw [h6]; exact name_6 w
  by_cases h7 : c = 7
  · rw [h7]; exact name_7 w
  by_cases h8 : c = 8
  · rw [h8]; exact name_8 w
  by_cases h9 : c = 9
  · rw [h9]; exact name_9 w
  by_cases h10 : c = 10
  · rw [h10]; exact name_10 w
  by_cases h11 : c = 11
  · rw [h11]; exact name_11 w
  by_cases h12 : c = 12
  · rw [h12]; exact name_12 w
  by_cases h13 : c = 13
  · rw [h13]; exact name_13 w
  by_cases hl : c < 0
  · exact name_lo c hl w
  · exact name_hi c (by omega) w

theorem itoa7 (w : World) :
    Calls Try.prog 27 #[.int .i64 7] w fun e w' => e = .returned (.string ⟨#[55]⟩) ∧ w' = w := by
  go_enter Try.func27, Try.ntmps27
  go_wp2
  go_ret
  exact ⟨rfl, rfl⟩

theorem name_7l (w : World) : Calls Try.prog 6 #[.int .i64 7] w fun e w' => e = .returned (.string ⟨#[115, 117, 109]⟩) ∧ w' = w := name_7 w

theorem error7 (w : World) :
    Calls Try.prog 26 #[.agg #[.int .i64 7, .int .i64 7]] w fun e w' => e = .returned (.string ⟨#[115, 117, 109, 32, 97, 116, 32, 55]⟩) ∧ Below w.heap.size w w' := by
  have h1 : ∀ W : World, (Op.stringOp .add ⟨#[115, 117, 109]⟩ ⟨#[32, 97, 116, 32]⟩).run Try.prog W = .ok (.string ⟨#[115, 117, 109, 32, 97, 116, 32]⟩) W := fun W => run_string_add_sum W _ _ (by decide)
  have h2 : ∀ W : World, (Op.stringOp .add ⟨#[115, 117, 109, 32, 97, 116, 32]⟩ ⟨#[55]⟩).run Try.prog W = .ok (.string ⟨#[115, 117, 109, 32, 97, 116, 32, 55]⟩) W := fun W => run_string_add_sum W _ _ (by decide)
  go_enter Try.func26, Try.ntmps26
  go_wp2
  go_quiet ((first | (go_at_call 6; exact Calls.quiet_of_same (name_7l _)) | (go_at_call 27; exact Calls.quiet_of_same (itoa7 _))))
  go_wp2
  go_ret
  exact ⟨rfl, below_drewN ((Below.refl _ _).alloc (Nat.le_refl _) _) _⟩

theorem new_some (c a : Int) (h : (c == 0) = false) (w : World) :
    Calls Try.prog 8 #[.int .i64 c, .int .i64 a] w fun e w' => e = .returned (.iface 27 (.agg #[.int .i64 c, .int .i64 a])) ∧ w' = w := by
  go_enter Try.func8, Try.ntmps8
  go_wp2
  go_ret
  exact ⟨rfl, rfl⟩

theorem alive_any (w : World) :
    Calls Try.prog 5 #[] w fun e w' => e = .returned (.bool true) ∧ Below w.heap.size w w' := by
  go_enter Try.func5, Try.ntmps5
  go_wp2_with (first | (go_at_call 7; refine (of_any _ _ _).mono ?_; rintro e w1 ⟨rfl, hb1⟩) | (go_at_call 26; refine (error7 _).mono ?_; rintro e w2 ⟨rfl, hb2⟩; have hc2 := fun o => hb2.cell (p := ⟨w1.heap.size, o, none⟩) (by simp)) | (go_at_call 10; refine (code_any _ _ _).mono ?_; rintro e w3 ⟨rfl, hb3⟩) | go_in)
  go_ret
  have z1 := hb1.size
  have z2 := hb2.size
  simp at z2
  exact ⟨rfl, ((hb1.alloc hb1.size _).trans (hb2.mono (by simp; omega))).trans (hb3.mono (by omega))⟩

theorem fs_a0 (b c d : Int) (w : World) :
    Calls Try.prog 4 #[.int .i64 0, .int .i64 b, .int .i64 c, .int .i64 d] w fun e w' => e = .returned (.bool true) ∧ Below w.heap.size w w' := by
  go_enter Try.func4, Try.ntmps4
  go_wp2_with (first | (go_at_call 5; refine (alive_any _).mono ?_; rintro e w1 ⟨rfl, hb1⟩))
  go_ret
  exact ⟨rfl, hb1⟩

theorem fs_b0 (a c d : Int) (h : (a == 0) = false) (w : World) :
    Calls Try.prog 4 #[.int .i64 a, .int .i64 0, .int .i64 c, .int .i64 d] w fun e w' => e = .returned (.bool true) ∧ Below w.heap.size w w' := by
  go_enter Try.func4, Try.ntmps4
  go_wp2_with (first | (go_at_call 5; refine (alive_any _).mono ?_; rintro e w1 ⟨rfl, hb1⟩))
  go_ret
  exact ⟨rfl, hb1⟩



/-- Must, and the cells that were there are as they were. -/
theorem must_keeps (c a : Int) (w0 w : World) (h0 : Below w0.heap.size w0 w) :
    Calls Try.prog 9 #[.iface 27 (.agg #[.int .i64 c, .int .i64 a])] w fun e w' => e = .returned (.agg #[.int .i64 c, .int .i64 a]) ∧ Below w0.heap.size w0 w' ∧ ∀ p v, w.cell? p = some v → w'.cell? p = some v := by
  refine (must_any c a w).mono ?_
  rintro e w' ⟨rfl, hb⟩
  exact ⟨rfl, h0.trans (hb.mono h0.size), fun p v h => by rw [hb.cell (World.block_lt_of_cell? w p h)]; exact h⟩

set_option maxRecDepth 100000 in
set_option maxHeartbeats 4000000 in
theorem fs_same (a c : Int) (h : (a == 0) = false) (w : World) :
    Calls Try.prog 4 #[.int .i64 a, .int .i64 a, .int .i64 c, .int .i64 c] w fun e w' => e = .returned (.bool true) ∧ Below w.heap.size w w' := by
  go_enter Try.func4, Try.ntmps4
  go_wp2_with (first | (go_at_call 5; refine (alive_any _).mono ?_; rintro e w1 ⟨rfl, hb1⟩) | (go_at_call 8; refine (new_some _ _ (by assumption) _).mono ?_; rintro e w1 ⟨rfl, rfl⟩))
  refine (of_any _ _ _).mono ?_
  rintro e w2 ⟨rfl, hb2⟩
  go_wp2_with (first | (go_at_call 8; refine (new_some _ _ (by assumption) _).mono ?_; rintro e w1 ⟨rfl, rfl⟩))
  refine (of_any _ _ _).mono ?_
  rintro e w3 ⟨rfl, hb3⟩
  go_wp2_with fail
  have z1 := hb1.size
  have z2 := hb2.size
  have z3 := hb3.size
  simp at z3
  have hc3 := fun o => hb3.cell (p := ⟨w2.heap.size, o, none⟩) (by simp)
  have hd := (((((hb1.trans (hb2.mono z1)).alloc (by omega) (Obj.cells #[Value.int IntKind.i64 a, Value.int IntKind.i64 c] 27)).trans (hb3.mono (by simp; omega))).alloc (by omega) (Obj.cells #[Value.int IntKind.i64 a, Value.int IntKind.i64 c] 27))).drew
  first
    | go_region_held_law (fun w' => w'.cell? ⟨w2.heap.size, 0, none⟩ = some (.int .i64 a) ∧ w'.cell? ⟨w2.heap.size, 1, none⟩ = some (.int .i64 c) ∧ w'.cell? ⟨w3.heap.size, 0, none⟩ = some (.int .i64 a) ∧ w'.cell? ⟨w3.heap.size, 1, none⟩ = some (.int .i64 c) ∧ Below w.heap.size w w') (go_keep) (first | (go_at_call 8; refine (new_some _ _ (by assumption) _).mono ?_; rintro e w1 ⟨rfl, rfl⟩) | (go_at_call 9; refine (must_keeps _ _ w _ (by assumption)).mono ?_; rintro e w4 ⟨rfl, hb4, hk4⟩))
    | fail "the region"
  all_goals go_wp2
  all_goals go_ret
  all_goals exact ⟨rfl, by assumption⟩

set_option maxRecDepth 100000 in
set_option maxHeartbeats 4000000 in
theorem fs_at (a c d : Int) (h : (a == 0) = false) (hcd : (c == d) = false) (w : World) :
    Calls Try.prog 4 #[.int .i64 a, .int .i64 a, .int .i64 c, .int .i64 d] w fun e w' => e = .returned (.bool true) ∧ Below w.heap.size w w' := by
  go_enter Try.func4, Try.ntmps4
  go_wp2_with (first | (go_at_call 5; refine (alive_any _).mono ?_; rintro e w1 ⟨rfl, hb1⟩) | (go_at_call 8; refine (new_some _ _ (by assumption) _).mono ?_; rintro e w1 ⟨rfl, rfl⟩))
  refine (of_any _ _ _).mono ?_
  rintro e w2 ⟨rfl, hb2⟩
  go_wp2_with (first | (go_at_call 8; refine (new_some _ _ (by assumption) _).mono ?_; rintro e w1 ⟨rfl, rfl⟩))
  refine (of_any _ _ _).mono ?_
  rintro e w3 ⟨rfl, hb3⟩
  go_wp2_with fail
  have z1 := hb1.size
  have z2 := hb2.size
  have z3 := hb3.size
  simp at z3
  have hc3 := fun o => hb3.cell (p := ⟨w2.heap.size, o, none⟩) (by simp)
  have hd := (((((hb1.trans (hb2.mono z1)).alloc (by omega) (Obj.cells #[Value.int IntKind.i64 a, Value.int IntKind.i64 c] 27)).trans (hb3.mono (by simp; omega))).alloc (by omega) (Obj.cells #[Value.int IntKind.i64 a, Value.int IntKind.i64 d] 27))).drew
  first
    | go_region_held_law (fun w' => w'.cell? ⟨w2.heap.size, 0, none⟩ = some (.int .i64 a) ∧ w'.cell? ⟨w2.heap.size, 1, none⟩ = some (.int .i64 c) ∧ w'.cell? ⟨w3.heap.size, 0, none⟩ = some (.int .i64 a) ∧ w'.cell? ⟨w3.heap.size, 1, none⟩ = some (.int .i64 d) ∧ Below w.heap.size w w') (go_keep) (first | (go_at_call 8; refine (new_some _ _ (by assumption) _).mono ?_; rintro e w1 ⟨rfl, rfl⟩) | (go_at_call 9; refine (must_keeps _ _ w _ (by assumption)).mono ?_; rintro e w4 ⟨rfl, hb4, hk4⟩))
    | fail "the region"
  all_goals go_wp2
  all_goals go_ret
  all_goals exact ⟨rfl, by assumption⟩

set_option maxRecDepth 100000 in
set_option maxHeartbeats 4000000 in
theorem fs_code (a b c d : Int) (h : (a == 0) = false) (k : (b == 0) = false) (hab : (a == b) = false) (w : World) :
    Calls Try.prog 4 #[.int .i64 a, .int .i64 b, .int .i64 c, .int .i64 d] w fun e w' => e = .returned (.bool true) ∧ Below w.heap.size w w' := by
  go_enter Try.func4, Try.ntmps4
  go_wp2_with (first | (go_at_call 5; refine (alive_any _).mono ?_; rintro e w1 ⟨rfl, hb1⟩) | (go_at_call 8; refine (new_some _ _ (by assumption) _).mono ?_; rintro e w1 ⟨rfl, rfl⟩))
  refine (of_any _ _ _).mono ?_
  rintro e w2 ⟨rfl, hb2⟩
  go_wp2_with (first | (go_at_call 8; refine (new_some _ _ (by assumption) _).mono ?_; rintro e w1 ⟨rfl, rfl⟩))
  refine (of_any _ _ _).mono ?_
  rintro e w3 ⟨rfl, hb3⟩
  go_wp2_with fail
  have z1 := hb1.size
  have z2 := hb2.size
  have z3 := hb3.size
  simp at z3
  have hc3 := fun o => hb3.cell (p := ⟨w2.heap.size, o, none⟩) (by simp)
  have hd := (((((hb1.trans (hb2.mono z1)).alloc (by omega) (Obj.cells #[Value.int IntKind.i64 a, Value.int IntKind.i64 c] 27)).trans (hb3.mono (by simp; omega))).alloc (by omega) (Obj.cells #[Value.int IntKind.i64 b, Value.int IntKind.i64 d] 27))).drew
  have hab2 : decide (a = b) = false := by simpa using hab
  first
    | go_region_held_law (fun w' => w'.cell? ⟨w2.heap.size, 0, none⟩ = some (.int .i64 a) ∧ w'.cell? ⟨w2.heap.size, 1, none⟩ = some (.int .i64 c) ∧ w'.cell? ⟨w3.heap.size, 0, none⟩ = some (.int .i64 b) ∧ w'.cell? ⟨w3.heap.size, 1, none⟩ = some (.int .i64 d) ∧ Below w.heap.size w w') (go_keep) (first | (go_at_call 8; refine (new_some _ _ (by assumption) _).mono ?_; rintro e w1 ⟨rfl, rfl⟩) | (go_at_call 9; refine (must_keeps _ _ w _ (by assumption)).mono ?_; rintro e w4 ⟨rfl, hb4, hk4⟩))
    | fail "the region"
  all_goals go_wp2
  all_goals go_ret
  all_goals exact ⟨rfl, by assumption⟩

theorem fs_walk (a b c d : Int) (w : World) :
    Calls Try.prog 4 #[.int .i64 a, .int .i64 b, .int .i64 c, .int .i64 d] w fun e w' => e = .returned (.bool true) ∧ Below w.heap.size w w' := by
  by_cases ha : a = 0
  · rw [ha]; exact fs_a0 b c d w
  · have ha' : (a == 0) = false := by simpa using ha
    by_cases hb : b = 0
    · rw [hb]; exact fs_b0 a c d ha' w
    · have hb' : (b == 0) = false := by simpa using hb
      by_cases hab : a = b
      · by_cases hcd : c = d
        · rw [← hab, ← hcd]; exact fs_same a c ha' w
        · rw [← hab]; exact fs_at a c d ha' (by simpa using hcd) w
      · exact fs_code a b c d ha' hb' (by simpa using hab) w

set_option linter.unusedVariables false
theorem faultSame_own : ownKnob Try.prog.godebug = none := by kernel_rfl

set_option maxRecDepth 100000 in
theorem faultSame_lifted (os : Os) (started : os.Started) (H : Type) (enc : TypeId × Value → H) :
    ReturnsInHanded {} Try.checked os 4 .any (Rows.faultSameSpec.pre6 enc Try.prog Try.f4 Rows.faultSameRow.domain false) (Rows.faultSameSpec.post enc Try.prog Try.f4 false true false false) := by
  refine returnsInHanded_of_change (C := Try.checked) faultSame_own started (by kernel_rfl) Try.func4
    (ChangeSpec.witness6 (enc := enc) (C := Try.checked) false ⟨#[], #[.int .i64 0, .int .i64 0, .int .i64 0, .int .i64 0], []⟩ 8 (by kernel_rfl) (by kernel_rfl) (by kernel_rfl) (by kernel_rfl)) ?_
  intro W base args ds gs before hval0 hW hcnd _
  have hval : ∀ (j : Nat) t v, Try.f4.params[j]? = some t → args[j]? = some v → Value.okWide Try.prog W .any base t v := hval0
  have hW' := hW
  obtain ⟨p, q, hA0, hV, rfl, hfz, hnd⟩ := hW
  have hA : DataW.TrodAll enc Try.prog W 0 (fun _ => true) true Try.f4.params.toList args.toList ds p := hA0
  rw [Try.params4] at hA hval
  obtain ⟨v0, vs0, d0, ds0, p0, q0, hargs, rfl, rfl, h0, r0⟩ := trodAll_cons hA
  obtain ⟨v1, vs1, d1, ds1, p1, q1, rfl, rfl, rfl, h1, r1⟩ := trodAll_cons r0
  obtain ⟨v2, vs2, d2, ds2, p2, q2, rfl, rfl, rfl, h2, r2⟩ := trodAll_cons r1
  obtain ⟨v3, vs3, d3, ds3, p3, q3, rfl, rfl, rfl, h3, r3⟩ := trodAll_cons r2
  obtain ⟨rfl, rfl, rfl⟩ := trodAll_nil r3
  obtain rfl : args = #[v0, v1, v2, v3] := by cases args; simp_all
  obtain ⟨rfl, rfl⟩ := trodVars_none hV
  obtain ⟨a0, rfl, rfl, rfl, w0⟩ := open_int Try.underlying22 (hval 0 22 v0 rfl rfl) h0
  obtain ⟨a1, rfl, rfl, rfl, w1⟩ := open_int Try.underlying22 (hval 1 22 v1 rfl rfl) h1
  obtain ⟨a2, rfl, rfl, rfl, w2⟩ := open_int Try.underlying3 (hval 2 3 v2 rfl rfl) h2
  obtain ⟨a3, rfl, rfl, rfl, w3⟩ := open_int Try.underlying3 (hval 3 3 v3 rfl rfl) h3
  clear hA0 hval0
  refine (fs_walk a0 a1 a2 a3 W).mono fun e W' ⟨he, bel⟩ => ?_
  subst he
  exact ⟨_, rfl, _, _, _, [], _, [], hW', trodAll_mk1 (shut_bool Try.underlying4 _), (trodAll_cons_mk (shut_int Try.underlying22 w0) (trodAll_cons_mk (shut_int Try.underlying22 w1) (trodAll_cons_mk (shut_int Try.underlying3 w2) (trodAll_cons_mk (shut_int Try.underlying3 w3) trodAll_mk0)))), rfl, bel.frame _, fun h => by cases h⟩

/-- THE STATEMENT. -/
theorem faultSame_holds : Rows.FaultSameSaid :=
  OpenClaim.holds_of_wide 4 Try.f4 rfl rfl rfl rfl rfl rfl rfl ⟨rfl, rfl, rfl, rfl, rfl⟩ rfl rfl rfl rfl rfl (by kernel_rfl) Try.func4 (by kernel_rfl)
    (of_decide_eq_true (by kernel_rfl)) (by unfold Func.isWrapper; first | (rw [if_pos (by decide +kernel)]; kernel_rfl) | (rw [if_neg (by decide +kernel)]; exact ⟨rfl, rfl⟩))
    (fun os started H enc _ => faultSame_lifted os started H enc)
#print axioms faultSame_holds
end Go.Proofs.Ytdcinnoebendgaa
