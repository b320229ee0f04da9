/-
  The Go function lexiphanelaw1.FaultNames returns true for every two codes a, b (any two integers of 64 bits): each of the fourteen codes has a name of its own, every other number is named error.
  No condition: whatever the input, in whatever memory; the arguments read as before.
-/
import Derived.Test.YtdcinnoebendgaaRows
import Derived.WalkKit
import Derived.ProofKit
import Derived.OpenShut
import Derived.Below
import Derived.Deep.QuietTactic
import Derived.BigQuiet
import Derived.WalkSmall
import Derived.Handy
namespace Go.Proofs.Ytdcinnoebendgaa
open Go.ChangeShapes Go.WideShapes Go.ChangeAt Go.RowKit

@[go_sem] theorem as27 (v : Value) (w : World) : (Instr.typeAssert (.iface 27 v) 31 27 true).run Try.prog w = .ok (.tuple #[v, .bool true]) w := by kernel_rfl
@[go_sem] theorem as27m (v : Value) (w : World) : (Instr.typeAssert (.iface 27 v) 31 27 false).run Try.prog w = .ok v w := by kernel_rfl

theorem of_any (c a : Int) (w : World) :
    Calls Try.prog 7 #[.iface 27 (.agg #[.int .i64 c, .int .i64 a])] w fun e w' => e = .returned (.tuple #[.agg #[.int .i64 c, .int .i64 a], .bool true]) ∧ Below w.heap.size w w' := by
  go_enter Try.func7, Try.ntmps7
  go_wp2
  exact bodyPost_ret (v := .tuple #[.agg #[.int .i64 c, .int .i64 a], .bool true]) (by simp [results, Try.results7, go_sem]) rfl ⟨rfl, ((Below.refl _ _).alloc (Nat.le_refl _) _).alloc (by simp) _⟩

theorem must_any (c a : Int) (w : World) :
    Calls Try.prog 9 #[.iface 27 (.agg #[.int .i64 c, .int .i64 a])] w fun e w' => e = .returned (.agg #[.int .i64 c, .int .i64 a]) ∧ Below w.heap.size w w' := by
  go_enter Try.func9, Try.ntmps9
  go_wp2
  exact bodyPost_ret (v := .agg #[.int .i64 c, .int .i64 a]) (by simp [results, Try.results9, go_sem]) rfl ⟨rfl, (Below.refl _ _).alloc (Nat.le_refl _) _⟩

theorem code_any (c a : Int) (w : World) :
    Calls Try.prog 10 #[.iface 27 (.agg #[.int .i64 c, .int .i64 a])] w fun e w' => e = .returned (.int .i64 c) ∧ Below w.heap.size w w' := by
  go_enter Try.func10, Try.ntmps10
  go_wp2_with (go_at_call 7; refine (of_any _ _ _).mono ?_; rintro e w1 ⟨rfl, hb⟩)
  go_ret
  exact ⟨rfl, hb.trans ((Below.refl _ _).alloc hb.size _)⟩

/-- A code's name, as bytes. -/
def nameB (c : Int) : ByteArray :=
  if c = 0 then ⟨#[111, 107]⟩
  else if c = 1 then ⟨#[97, 114, 103]⟩
  else if c = 2 then ⟨#[109, 111, 114, 101]⟩
  else if c = 3 then ⟨#[102, 111, 114, 109]⟩
  else if c = 4 then ⟨#[114, 97, 110, 103, 101]⟩
  else if c = 5 then ⟨#[100, 105, 99, 116]⟩
  else if c = 6 then ⟨#[119, 114, 111, 110, 103]⟩
  else if c = 7 then ⟨#[115, 117, 109]⟩
  else if c = 8 then ⟨#[99, 111, 100, 101]⟩
  else if c = 9 then ⟨#[116, 111, 107, 101, 110]⟩
  else if c = 10 then ⟨#[115, 105, 122, 101]⟩
  else if c = 11 then ⟨#[115, 116, 97, 116, 101]⟩
  else if c = 12 then ⟨#[108, 101, 110, 103, 116, 104]⟩
  else if c = 13 then ⟨#[98, 101, 104, 105, 110, 100]⟩
  else ⟨#[101, 114, 114, 111, 114]⟩

theorem name_0 (w : World) : Calls Try.prog 6 #[.int .i64 0] w fun e w' => e = .returned (.string (nameB 0)) ∧ w' = w := by
  go_enter Try.func6, Try.ntmps6
  go_wp2
  go_ret
  exact ⟨rfl, rfl⟩

theorem name_1 (w : World) : Calls Try.prog 6 #[.int .i64 1] w fun e w' => e = .returned (.string (nameB 1)) ∧ w' = w := by
  go_enter Try.func6, Try.ntmps6
  go_wp2
  go_ret
  exact ⟨rfl, rfl⟩

theorem name_2 (w : World) : Calls Try.prog 6 #[.int .i64 2] w fun e w' => e = .returned (.string (nameB 2)) ∧ w' = w := by
  go_enter Try.func6, Try.ntmps6
  go_wp2
  go_ret
  exact ⟨rfl, rfl⟩

theorem name_3 (w : World) : Calls Try.prog 6 #[.int .i64 3] w fun e w' => e = .returned (.string (nameB 3)) ∧ w' = w := by
  go_enter Try.func6, Try.ntmps6
  go_wp2
  go_ret
  exact ⟨rfl, rfl⟩

theorem name_4 (w : World) : Calls Try.prog 6 #[.int .i64 4] w fun e w' => e = .returned (.string (nameB 4)) ∧ w' = w := by
  go_enter Try.func6, Try.ntmps6
  go_wp2
  go_ret
  exact ⟨rfl, rfl⟩

theorem name_5 (w : World) : Calls Try.prog 6 #[.int .i64 5] w fun e w' => e = .returned (.string (nameB 5)) ∧ w' = w := by
  go_enter Try.func6, Try.ntmps6
  go_wp2
  go_ret
  exact ⟨rfl, rfl⟩

theorem name_6 (w : World) : Calls Try.prog 6 #[.int .i64 6] w fun e w' => e = .returned (.string (nameB 6)) ∧ w' = w := by
  go_enter Try.func6, Try.ntmps6
  go_wp2
  go_ret
  exact ⟨rfl, rfl⟩

theorem name_7 (w : World) : Calls Try.prog 6 #[.int .i64 7] w fun e w' => e = .returned (.string (nameB 7)) ∧ w' = w := by
  go_enter Try.func6, Try.ntmps6
  go_wp2
  go_ret
  exact ⟨rfl, rfl⟩

theorem name_8 (w : World) : Calls Try.prog 6 #[.int .i64 8] w fun e w' => e = .returned (.string (nameB 8)) ∧ w' = w := by
  go_enter Try.func6, Try.ntmps6
  go_wp2
  go_ret
  exact ⟨rfl, rfl⟩

theorem name_9 (w : World) : Calls Try.prog 6 #[.int .i64 9] w fun e w' => e = .returned (.string (nameB 9)) ∧ w' = w := by
  go_enter Try.func6, Try.ntmps6
  go_wp2
  go_ret
  exact ⟨rfl, rfl⟩

theorem name_10 (w : World) : Calls Try.prog 6 #[.int .i64 10] w fun e w' => e = .returned (.string (nameB 10)) ∧ w' = w := by
  go_enter Try.func6, Try.ntmps6
  go_wp2
  go_ret
  exact ⟨rfl, rfl⟩

theorem name_11 (w : World) : Calls Try.prog 6 #[.int .i64 11] w fun e w' => e = .returned (.string (nameB 11)) ∧ w' = w := by
  go_enter Try.func6, Try.ntmps6
  go_wp2
  go_ret
  exact ⟨rfl, rfl⟩

theorem name_12 (w : World) : Calls Try.prog 6 #[.int .i64 12] w fun e w' => e = .returned (.string (nameB 12)) ∧ w' = w := by
  go_enter Try.func6, Try.ntmps6
  go_wp2
  go_ret
  exact ⟨rfl, rfl⟩

theorem name_13 (w : World) : Calls Try.prog 6 #[.int .i64 13] w fun e w' => e = .returned (.string (nameB 13)) ∧ w' = w := by
  go_enter Try.func6, Try.ntmps6
  go_wp2
  go_ret
  exact ⟨rfl, rfl⟩

theorem name_lo (c : Int) (h : c < 0) (w : World) : Calls Try.prog 6 #[.int .i64 c] w fun e w' => e = .returned (.string (nameB c)) ∧ w' = w := by
  have hn : nameB c = nameB (-1) := by unfold nameB; repeat rw [if_neg (by omega)]
  rw [hn]
  go_enter Try.func6, Try.ntmps6
  go_wp2
  go_ret
  exact ⟨rfl, rfl⟩

theorem name_hi (c : Int) (h : 13 < c) (w : World) : Calls Try.prog 6 #[.int .i64 c] w fun e w' => e = .returned (.string (nameB c)) ∧ w' = w := by
  have hn : nameB c = nameB (-1) := by unfold nameB; repeat rw [if_neg (by omega)]
  rw [hn]
  go_enter Try.func6, Try.ntmps6
  go_wp2
  go_ret
  exact ⟨rfl, rfl⟩

theorem name_any (c : Int) (w : World) :
    Calls Try.prog 6 #[.int .i64 c] w fun e w' => e = .returned (.string (nameB c)) ∧ w' = w := by
  by_cases h0 : c = 0
  · rw [h0]; exact name_0 w
  by_cases h1 : c = 1
  · rw [h1]; exact name_1 w
  by_cases h2 : c = 2
  · rw [h2]; exact name_2 w
  by_cases h3 : c = 3
  · rw [h3]; exact name_3 w
  by_cases h4 : c = 4
  · rw [h4]; exact name_4 w
  by_cases h5 : c = 5
  · rw [h5]; exact name_5 w
  by_cases h6 : c = 6
  · rw [h6]; exact name_6 w
  by_cases h7 : c = 7
  · rw [h7]; exact name_7 w
  by_cases h8 : c = 8
  · rw [h8]; exact name_8 w
  by_cases h9 : c = 9
  · rw [h9]; exact name_9 w
  by_cases h10 : c = 10
  · rw [h10]; exact name_10 w
  by_cases h11 : c = 11
  · rw [h11]; exact name_11 w
  by_cases h12 : c = 12
  · rw [h12]; exact name_12 w
  by_cases h13 : c = 13
  · rw [h13]; exact name_13 w
  by_cases hl : c < 0
  · exact name_lo c hl w
  · exact name_hi c (by omega) w

theorem itoa7 (w : World) :
    Calls Try.prog 27 #[.int .i64 7] w fun e w' => e = .returned (.string ⟨#[55]⟩) ∧ w' = w := by
  go_enter Try.func27, Try.ntmps27
  go_wp2
  go_ret
  exact ⟨rfl, rfl⟩

theorem name_7l (w : World) : Calls Try.prog 6 #[.int .i64 7] w fun e w' => e = .returned (.string ⟨#[115, 117, 109]⟩) ∧ w' = w := name_7 w

theorem error7 (w : World) :
    Calls Try.prog 26 #[.agg #[.int .i64 7, .int .i64 7]] w fun e w' => e = .returned (.string ⟨#[115, 117, 109, 32, 97, 116, 32, 55]⟩) ∧ Below w.heap.size w w' := by
  have h1 : ∀ W : World, (Op.stringOp .add ⟨#[115, 117, 109]⟩ ⟨#[32, 97, 116, 32]⟩).run Try.prog W = .ok (.string ⟨#[115, 117, 109, 32, 97, 116, 32]⟩) W := fun W => run_string_add_sum W _ _ (by decide)
  have h2 : ∀ W : World, (Op.stringOp .add ⟨#[115, 117, 109, 32, 97, 116, 32]⟩ ⟨#[55]⟩).run Try.prog W = .ok (.string ⟨#[115, 117, 109, 32, 97, 116, 32, 55]⟩) W := fun W => run_string_add_sum W _ _ (by decide)
  go_enter Try.func26, Try.ntmps26
  go_wp2
  go_quiet ((first | (go_at_call 6; exact Calls.quiet_of_same (name_7l _)) | (go_at_call 27; exact Calls.quiet_of_same (itoa7 _))))
  go_wp2
  go_ret
  exact ⟨rfl, below_drewN ((Below.refl _ _).alloc (Nat.le_refl _) _) _⟩

theorem new_some (c a : Int) (h : (c == 0) = false) (w : World) :
    Calls Try.prog 8 #[.int .i64 c, .int .i64 a] w fun e w' => e = .returned (.iface 27 (.agg #[.int .i64 c, .int .i64 a])) ∧ w' = w := by
  go_enter Try.func8, Try.ntmps8
  go_wp2
  go_ret
  exact ⟨rfl, rfl⟩

theorem alive_any (w : World) :
    Calls Try.prog 5 #[] w fun e w' => e = .returned (.bool true) ∧ Below w.heap.size w w' := by
  go_enter Try.func5, Try.ntmps5
  go_wp2_with (first | (go_at_call 7; refine (of_any _ _ _).mono ?_; rintro e w1 ⟨rfl, hb1⟩) | (go_at_call 26; refine (error7 _).mono ?_; rintro e w2 ⟨rfl, hb2⟩; have hc2 := fun o => hb2.cell (p := ⟨w1.heap.size, o, none⟩) (by simp)) | (go_at_call 10; refine (code_any _ _ _).mono ?_; rintro e w3 ⟨rfl, hb3⟩) | go_in)
  go_ret
  have z1 := hb1.size
  have z2 := hb2.size
  simp at z2
  exact ⟨rfl, ((hb1.alloc hb1.size _).trans (hb2.mono (by simp; omega))).trans (hb3.mono (by omega))⟩

theorem names_two : ∀ i j : Fin 14, ((nameB (i.val : Int)).toList == (nameB (j.val : Int)).toList) = ((i.val : Int) == (j.val : Int)) := by decide +kernel
theorem names_in : ∀ i : Fin 14, ((nameB (i.val : Int)).toList == [101, 114, 114, 111, 114]) = false := by decide +kernel
theorem names_full : ∀ i : Fin 14, (nameB (i.val : Int)).toList.isEmpty = false := by decide +kernel

theorem fin_of {a : Int} (h1 : 0 ≤ a) (h2 : a ≤ 13) : ∃ i : Fin 14, (i.val : Int) = a := ⟨⟨a.toNat, by omega⟩, by simp; omega⟩

theorem name_out {a : Int} (h : a < 0 ∨ 13 < a) : nameB a = ⟨#[101, 114, 114, 111, 114]⟩ := by
  unfold nameB
  repeat rw [if_neg (by omega)]

theorem eq_two {a b : Int} (h1 : 0 ≤ a) (h2 : a ≤ 13) (h3 : 0 ≤ b) (h4 : b ≤ 13) : ((nameB a).toList == (nameB b).toList) = (a == b) := by
  obtain ⟨i, rfl⟩ := fin_of h1 h2
  obtain ⟨j, rfl⟩ := fin_of h3 h4
  exact names_two i j
theorem in_one {a : Int} (h1 : 0 ≤ a) (h2 : a ≤ 13) : ((nameB a).toList == [101, 114, 114, 111, 114]) = false := by
  obtain ⟨i, rfl⟩ := fin_of h1 h2
  exact names_in i
theorem full_one {a : Int} (h1 : 0 ≤ a) (h2 : a ≤ 13) : (nameB a).toList.isEmpty = false := by
  obtain ⟨i, rfl⟩ := fin_of h1 h2
  exact names_full i
theorem in_out {a : Int} (h : a < 0 ∨ 13 < a) : ((nameB a).toList == [101, 114, 114, 111, 114]) = true := by rw [name_out h]; decide +kernel
theorem full_out {a : Int} (h : a < 0 ∨ 13 < a) : (nameB a).toList.isEmpty = false := by rw [name_out h]; decide +kernel

/-- Both are codes. -/
theorem fn_in_in (a b : Int) (w : World) (h1 : 0 ≤ a) (h2 : a ≤ 13) (h3 : 0 ≤ b) (h4 : b ≤ 13) :
    Calls Try.prog 3 #[.int .i64 a, .int .i64 b] w fun e w' => e = .returned (.bool true) ∧ Below w.heap.size w w' := by
  have e1 := in_one h1 h2
  have e2 := eq_two h1 h2 h3 h4
  have e3 := full_one h1 h2
  go_enter Try.func3, Try.ntmps3
  go_wp2_with (first | (go_at_call 5; refine (alive_any _).mono ?_; rintro e w1 ⟨rfl, hb1⟩) | (go_at_call 6; refine (name_any _ _).mono ?_; rintro e w2 ⟨rfl, rfl⟩))
  go_ret
  exact ⟨rfl, hb1⟩

/-- The second is none. -/
theorem fn_in_out (a b : Int) (w : World) (h1 : 0 ≤ a) (h2 : a ≤ 13) (h3 : b < 0 ∨ 13 < b) :
    Calls Try.prog 3 #[.int .i64 a, .int .i64 b] w fun e w' => e = .returned (.bool true) ∧ Below w.heap.size w w' := by
  have e1 := in_one h1 h2
  have e3 := full_one h1 h2
  rcases h3 with h3 | h3
  · go_enter Try.func3, Try.ntmps3
    go_wp2_with (first | (go_at_call 5; refine (alive_any _).mono ?_; rintro e w1 ⟨rfl, hb1⟩) | (go_at_call 6; refine (name_any _ _).mono ?_; rintro e w2 ⟨rfl, rfl⟩))
    go_ret
    exact ⟨rfl, hb1⟩
  · have h4 : 0 ≤ b := by omega
    go_enter Try.func3, Try.ntmps3
    go_wp2_with (first | (go_at_call 5; refine (alive_any _).mono ?_; rintro e w1 ⟨rfl, hb1⟩) | (go_at_call 6; refine (name_any _ _).mono ?_; rintro e w2 ⟨rfl, rfl⟩))
    go_ret
    exact ⟨rfl, hb1⟩

/-- The first is none: then the second does not matter. -/
theorem fn_out (a b : Int) (w : World) (h : a < 0 ∨ 13 < a) :
    Calls Try.prog 3 #[.int .i64 a, .int .i64 b] w fun e w' => e = .returned (.bool true) ∧ Below w.heap.size w w' := by
  have e1 := in_out h
  have e3 := full_out h
  have hb : b < 0 ∨ (0 ≤ b ∧ b ≤ 13) ∨ (0 ≤ b ∧ 13 < b) := by omega
  have ha : a < 0 ∨ (0 ≤ a ∧ 13 < a) := by omega
  rcases ha with ha | ⟨ha, ha'⟩ <;> rcases hb with hb | ⟨hb, hb'⟩ | ⟨hb, hb'⟩
  all_goals
    go_enter Try.func3, Try.ntmps3
    go_wp2_with (first | (go_at_call 5; refine (alive_any _).mono ?_; rintro e w1 ⟨rfl, hb1⟩) | (go_at_call 6; refine (name_any _ _).mono ?_; rintro e w2 ⟨rfl, rfl⟩))
    go_ret
    exact ⟨rfl, hb1⟩

theorem fn_walk (a b : Int) (w : World) :
    Calls Try.prog 3 #[.int .i64 a, .int .i64 b] w fun e w' => e = .returned (.bool true) ∧ Below w.heap.size w w' := by
  by_cases h : a < 0 ∨ 13 < a
  · exact fn_out a b w h
  · by_cases k : b < 0 ∨ 13 < b
    · exact fn_in_out a b w (by omega) (by omega) k
    · exact fn_in_in a b w (by omega) (by omega) (by omega) (by omega)

set_option linter.unusedVariables false
theorem faultNames_own : ownKnob Try.prog.godebug = none := by kernel_rfl

set_option maxRecDepth 100000 in
theorem faultNames_lifted (os : Os) (started : os.Started) (H : Type) (enc : TypeId × Value → H) :
    ReturnsInHanded {} Try.checked os 3 .any (Rows.faultNamesSpec.pre6 enc Try.prog Try.f3 Rows.faultNamesRow.domain false) (Rows.faultNamesSpec.post enc Try.prog Try.f3 false true false false) := by
  refine returnsInHanded_of_change (C := Try.checked) faultNames_own started (by kernel_rfl) Try.func3
    (ChangeSpec.witness6 (enc := enc) (C := Try.checked) false ⟨#[], #[.int .i64 0, .int .i64 0], []⟩ 8 (by kernel_rfl) (by kernel_rfl) (by kernel_rfl) (by kernel_rfl)) ?_
  intro W base args ds gs before hval0 hW hcnd _
  have hval : ∀ (j : Nat) t v, Try.f3.params[j]? = some t → args[j]? = some v → Value.okWide Try.prog W .any base t v := hval0
  have hW' := hW
  obtain ⟨p, q, hA0, hV, rfl, hfz, hnd⟩ := hW
  have hA : DataW.TrodAll enc Try.prog W 0 (fun _ => true) true Try.f3.params.toList args.toList ds p := hA0
  rw [Try.params3] at hA hval
  obtain ⟨v0, vs0, d0, ds0, p0, q0, hargs, rfl, rfl, h0, r0⟩ := trodAll_cons hA
  obtain ⟨v1, vs1, d1, ds1, p1, q1, rfl, rfl, rfl, h1, r1⟩ := trodAll_cons r0
  obtain ⟨rfl, rfl, rfl⟩ := trodAll_nil r1
  obtain rfl : args = #[v0, v1] := by cases args; simp_all
  obtain ⟨rfl, rfl⟩ := trodVars_none hV
  obtain ⟨a0, rfl, rfl, rfl, w0⟩ := open_int Try.underlying22 (hval 0 22 v0 rfl rfl) h0
  obtain ⟨a1, rfl, rfl, rfl, w1⟩ := open_int Try.underlying22 (hval 1 22 v1 rfl rfl) h1
  clear hA0 hval0
  refine (fn_walk a0 a1 W).mono fun e W' ⟨he, bel⟩ => ?_
  subst he
  exact ⟨_, rfl, _, _, _, [], _, [], hW', trodAll_mk1 (shut_bool Try.underlying4 _), (trodAll_cons_mk (shut_int Try.underlying22 w0) (trodAll_cons_mk (shut_int Try.underlying22 w1) trodAll_mk0)), rfl, bel.frame _, fun h => by cases h⟩

/-- THE STATEMENT. -/
theorem faultNames_holds : Rows.FaultNamesSaid :=
  OpenClaim.holds_of_wide 3 Try.f3 rfl rfl rfl rfl rfl rfl rfl ⟨rfl, rfl, rfl, rfl, rfl⟩ rfl rfl rfl rfl rfl (by kernel_rfl) Try.func3 (by kernel_rfl)
    (of_decide_eq_true (by kernel_rfl)) (by unfold Func.isWrapper; first | (rw [if_pos (by decide +kernel)]; kernel_rfl) | (rw [if_neg (by decide +kernel)]; exact ⟨rfl, rfl⟩))
    (fun os started H enc _ => faultNames_lifted os started H enc)
#print axioms faultNames_holds
end Go.Proofs.Ytdcinnoebendgaa
