/-
  What the functions of package fault, and the helpers of the statements about it, answer: the contracts that the proofs of this seat stand on. (No statement of its own is proved here.)
-/
import Derived.Test.YtfalihhbcpjmgaaFmtRows
import Derived.WalkKit
import Derived.ProofKit
import Derived.OpenShut
import Derived.Below
import Derived.Deep.QuietTactic
import Derived.BigQuiet
import Derived.WalkSmall
import Derived.Handy
import Derived.Defers
import Derived.Recover
import Derived.Deep.RegionHeldLaw
namespace Go.Proofs.YtfalihhbcpjmgaaFmt
open Go.ChangeShapes Go.WideShapes Go.ChangeAt Go.RowKit

@[go_sem] theorem as27 (v : Value) (w : World) : (Instr.typeAssert (.iface 25 v) 27 25 true).run Tryf.prog w = .ok (.tuple #[v, .bool true]) w := by kernel_rfl
@[go_sem] theorem as27m (v : Value) (w : World) : (Instr.typeAssert (.iface 25 v) 27 25 false).run Tryf.prog w = .ok v w := by kernel_rfl
@[go_sem] theorem as0 (w : World) : (Instr.typeAssert .nilIface 27 25 true).run Tryf.prog w = .ok (.tuple #[.agg #[.int .i64 0, .int .i64 0], .bool false]) w := by kernel_rfl
@[go_sem] theorem as0m (w : World) : (Instr.typeAssert .nilIface 27 25 false).run Tryf.prog w = .halt (.panic (.iface Tryf.prog.rt.typeAssertionError (.pointer (some ⟨w.heap.size, 0, none⟩)))) (w.alloc (.cells #[typeHandle Tryf.prog 27, .pointer none, typeHandle Tryf.prog 25, strVal ""] 68)) := by kernel_rfl

/-- Old cells are as they were. -/
theorem keeps {w w' : World} (hb : Below w.heap.size w w') (p : Addr) (v : Value) (h : w.cell? p = some v) : w'.cell? p = some v := by
  rw [hb.cell (World.block_lt_of_cell? w p h)]; exact h
/-- One step more. -/
theorem onto {w0 w w' : World} (h0 : Below w0.heap.size w0 w) (hb : Below w.heap.size w w') : Below w0.heap.size w0 w' := h0.trans (hb.mono h0.size)

theorem of_any (c a : Int) (w : World) :
    Calls Tryf.prog 6 #[.iface 25 (.agg #[.int .i64 c, .int .i64 a])] w fun e w' => e = .returned (.tuple #[.agg #[.int .i64 c, .int .i64 a], .bool true]) ∧ Below w.heap.size w w' := by
  go_enter Tryf.func6, Tryf.ntmps6
  go_wp2
  exact bodyPost_ret (v := .tuple #[.agg #[.int .i64 c, .int .i64 a], .bool true]) (by simp [results, Tryf.results6, go_sem]) rfl ⟨rfl, ((Below.refl _ _).alloc (Nat.le_refl _) _).alloc (by simp) _⟩

theorem of_nil (w : World) :
    Calls Tryf.prog 6 #[.nilIface] w fun e w' => e = .returned (.tuple #[.agg #[.int .i64 0, .int .i64 0], .bool false]) ∧ Below w.heap.size w w' := by
  go_enter Tryf.func6, Tryf.ntmps6
  go_wp2
  exact bodyPost_ret (v := .tuple #[.agg #[.int .i64 0, .int .i64 0], .bool false]) (by simp [results, Tryf.results6, go_sem]) rfl ⟨rfl, ((Below.refl _ _).alloc (Nat.le_refl _) _).alloc (by simp) _⟩

theorem must_any (c a : Int) (w : World) :
    Calls Tryf.prog 15 #[.iface 25 (.agg #[.int .i64 c, .int .i64 a])] w fun e w' => e = .returned (.agg #[.int .i64 c, .int .i64 a]) ∧ Below w.heap.size w w' := by
  go_enter Tryf.func15, Tryf.ntmps15
  go_wp2
  exact bodyPost_ret (v := .agg #[.int .i64 c, .int .i64 a]) (by simp [results, Tryf.results15, go_sem]) rfl ⟨rfl, (Below.refl _ _).alloc (Nat.le_refl _) _⟩

theorem code_any (c a : Int) (w : World) :
    Calls Tryf.prog 8 #[.iface 25 (.agg #[.int .i64 c, .int .i64 a])] w fun e w' => e = .returned (.int .i64 c) ∧ Below w.heap.size w w' := by
  go_enter Tryf.func8, Tryf.ntmps8
  go_wp2_with (go_at_call 6; refine (of_any _ _ _).mono ?_; rintro e w1 ⟨rfl, hb⟩)
  go_ret
  exact ⟨rfl, hb.trans ((Below.refl _ _).alloc hb.size _)⟩

theorem code_nil (w : World) :
    Calls Tryf.prog 8 #[.nilIface] w fun e w' => e = .returned (.int .i64 0) ∧ w' = w := by
  go_enter Tryf.func8, Tryf.ntmps8
  go_wp2
  go_ret
  exact ⟨rfl, rfl⟩

theorem new_nil (a : Int) (w : World) :
    Calls Tryf.prog 9 #[.int .i64 0, .int .i64 a] w fun e w' => e = .returned .nilIface ∧ w' = w := by
  go_enter Tryf.func9, Tryf.ntmps9
  go_wp2
  go_ret
  exact ⟨rfl, rfl⟩

theorem catch_idle (p : Addr) (x : Bool) (w : World) (hc : w.cell? p = some (.bool x)) (hz : w.frozen? p = false) :
    CallsD Tryf.prog 14 #[.pointer (some p)] .returning w fun e u' w' => e = .returned (.tuple #[]) ∧ u' = .returning ∧ w' = w.setCell p (.bool false) := by
  refine callsD_of_wpS Tryf.func14 rfl fun c₀ cs hu => ?_
  apply wpS_region
  simp [wpOpsS, go_sem, recoverD, hu, Tryf.ntmps14, hc, hz, bodyPostS, results, Tryf.results14]
  cases c₀
  simp_all

theorem catch_panicking (p : Addr) (x : Bool) (u : TypeId) (pv : Value) (older : List PanicEntry) (w : World) (hc : w.cell? p = some (.bool x)) (hz : w.frozen? p = false) :
    CallsD Tryf.prog 14 #[.pointer (some p)] (.panicking ({ v := .iface u pv, recovered := false } :: older)) w fun e u' w' =>
      e = .returned (.tuple #[]) ∧ u' = .panicking ({ v := .iface u pv, recovered := true } :: older) ∧ w' = w.setCell p (.bool true) := by
  refine callsD_of_wpS Tryf.func14 rfl fun c₀ cs hu => ?_
  apply wpS_region
  simp [wpOpsS, go_sem, recoverD, hu, Tryf.ntmps14, hc, hz, bodyPostS, results, Tryf.results14]

theorem must_nilpanics (w : World) :
    Calls Tryf.prog 15 #[.nilIface] w fun e w' => ∃ p, e = .panicked [{ v := .iface 15 p, recovered := false }] ∧ Below w.heap.size w w' := by
  go_enter Tryf.func15, Tryf.ntmps15
  go_wp2
  exact ⟨rfl, _, rfl, ((Below.refl _ _).alloc (Nat.le_refl _) _).alloc (by simp) _⟩

theorem hmf (fn : Fn) (first cap : Array Value) (w : World) : (Instr.makeFunc fn first cap).run Tryf.prog w = .ok (.func fn first cap) w := rfl

theorem must_some (c a : Int) (w : World) :
    Calls Tryf.prog 7 #[.iface 25 (.agg #[.int .i64 c, .int .i64 a])] w fun e w' => e = .returned (.tuple #[.agg #[.int .i64 c, .int .i64 a], .bool false]) ∧ Below w.heap.size w w' := by
  have hm := hmf
  go_enter_defers Tryf.func7, Tryf.ntmps7
  go_wp2_with (go_at_call 15; refine (must_any _ _ _).mono ?_; rintro e w1 ⟨rfl, hb1⟩; have hc1 := fun o => hb1.cell (p := ⟨w.heap.size, o, none⟩) (by simp; omega); have hd1 := fun o => hb1.cell (p := ⟨w.heap.size + 1, o, none⟩) (by simp); have hf1 := fun o => hb1.frozen (p := ⟨w.heap.size, o, none⟩) (by simp; omega); have hg1 := fun o => hb1.frozen (p := ⟨w.heap.size + 1, o, none⟩) (by simp))
  refine leaves_cons (f := 14) (args := #[.pointer (some ⟨w.heap.size + 1, 0, none⟩)]) (by simp) (by simp [go_sem]) ?_
  refine (catch_idle ⟨w.heap.size + 1, 0, none⟩ false _ ?_ ?_).mono ?_
  · simp [go_sem, hd1]
  · simp [go_sem, hg1]
  rintro e u' w'' ⟨rfl, rfl, rfl⟩
  have hB : Below w.heap.size w w1 := (((Below.refl _ _).alloc (Nat.le_refl _) _).alloc (by simp) _).trans (hb1.mono (by simp; omega))
  have k1 : ((w1.setCell ⟨w.heap.size, 0, none⟩ (.int .i64 c)).setCell ⟨w.heap.size, 1, none⟩ (.int .i64 a)).cell? ⟨w.heap.size + 1, 0, none⟩ = some (.bool false) := by
    rw [World.cell?_setCell_other _ _ _ _ (by simp), World.cell?_setCell_other _ _ _ _ (by simp), hd1]; simp [go_sem]
  have k2 := World.cell?_setCell_same _ _ (.bool false) k1
  have k3 := World.cell?_setCell_same _ _ (.bool false) k2
  simp [Leaves, settle, results, Tryf.results7, go_sem, hc1, k3]
  repeat (refine Below.setCell ?_ (by first | exact Nat.le_refl _ | exact Nat.le_succ _) _)
  exact hB

theorem must_nil (w : World) :
    Calls Tryf.prog 7 #[.nilIface] w fun e w' => e = .returned (.tuple #[.agg #[.int .i64 0, .int .i64 0], .bool true]) ∧ Below w.heap.size w w' := by
  have hm := hmf
  go_enter_defers Tryf.func7, Tryf.ntmps7
  go_wp2_with (go_at_call 15; refine (must_nilpanics _).mono ?_; rintro e w1 ⟨p, rfl, hb1⟩; have hc1 := fun o => hb1.cell (p := ⟨w.heap.size, o, none⟩) (by simp; omega); have hd1 := fun o => hb1.cell (p := ⟨w.heap.size + 1, o, none⟩) (by simp); have hg1 := fun o => hb1.frozen (p := ⟨w.heap.size + 1, o, none⟩) (by simp))
  refine leaves_cons (f := 14) (args := #[.pointer (some ⟨w.heap.size + 1, 0, none⟩)]) (by simp) (by simp [go_sem]) ?_
  refine (catch_panicking ⟨w.heap.size + 1, 0, none⟩ false _ _ [] _ ?_ ?_).mono ?_
  · simp [go_sem, hd1]
  · simp [go_sem, hg1]
  rintro e u' w'' ⟨rfl, rfl, rfl⟩
  have hB : Below w.heap.size w w1 := (((Below.refl _ _).alloc (Nat.le_refl _) _).alloc (by simp) _).trans (hb1.mono (by simp; omega))
  simp [Leaves, settle, results, Tryf.results7, go_sem, hc1, hd1]
  exact hB.setCell (Nat.le_succ _) _

/-- A code's name, as bytes. -/
def nameB (c : Int) : ByteArray :=
  if c = 0 then ⟨#[111, 107]⟩
  else if c = 1 then ⟨#[97, 114, 103]⟩
  else if c = 2 then ⟨#[109, 111, 114, 101]⟩
  else if c = 3 then ⟨#[102, 111, 114, 109]⟩
  else if c = 4 then ⟨#[114, 97, 110, 103, 101]⟩
  else if c = 5 then ⟨#[100, 105, 99, 116]⟩
  else if c = 6 then ⟨#[119, 114, 111, 110, 103]⟩
  else if c = 7 then ⟨#[115, 117, 109]⟩
  else if c = 8 then ⟨#[99, 111, 100, 101]⟩
  else if c = 9 then ⟨#[116, 111, 107, 101, 110]⟩
  else if c = 10 then ⟨#[115, 105, 122, 101]⟩
  else if c = 11 then ⟨#[115, 116, 97, 116, 101]⟩
  else if c = 12 then ⟨#[108, 101, 110, 103, 116, 104]⟩
  else if c = 13 then ⟨#[98, 101, 104, 105, 110, 100]⟩
  else ⟨#[101, 114, 114, 111, 114]⟩

theorem name_0 (w : World) : Calls Tryf.prog 10 #[.int .i64 0] w fun e w' => e = .returned (.string (nameB 0)) ∧ w' = w := by
  go_enter Tryf.func10, Tryf.ntmps10
  go_wp2
  go_ret
  exact ⟨rfl, rfl⟩

theorem name_1 (w : World) : Calls Tryf.prog 10 #[.int .i64 1] w fun e w' => e = .returned (.string (nameB 1)) ∧ w' = w := by
  go_enter Tryf.func10, Tryf.ntmps10
  go_wp2
  go_ret
  exact ⟨rfl, rfl⟩

theorem name_2 (w : World) : Calls Tryf.prog 10 #[.int .i64 2] w fun e w' => e = .returned (.string (nameB 2)) ∧ w' = w := by
  go_enter Tryf.func10, Tryf.ntmps10
  go_wp2
  go_ret
  exact ⟨rfl, rfl⟩

theorem name_3 (w : World) : Calls Tryf.prog 10 #[.int .i64 3] w fun e w' => e = .returned (.string (nameB 3)) ∧ w' = w := by
  go_enter Tryf.func10, Tryf.ntmps10
  go_wp2
  go_ret
  exact ⟨rfl, rfl⟩

theorem name_4 (w : World) : Calls Tryf.prog 10 #[.int .i64 4] w fun e w' => e = .returned (.string (nameB 4)) ∧ w' = w := by
  go_enter Tryf.func10, Tryf.ntmps10
  go_wp2
  go_ret
  exact ⟨rfl, rfl⟩

theorem name_5 (w : World) : Calls Tryf.prog 10 #[.int .i64 5] w fun e w' => e = .returned (.string (nameB 5)) ∧ w' = w := by
  go_enter Tryf.func10, Tryf.ntmps10
  go_wp2
  go_ret
  exact ⟨rfl, rfl⟩

theorem name_6 (w : World) : Calls Tryf.prog 10 #[.int .i64 6] w fun e w' => e = .returned (.string (nameB 6)) ∧ w' = w := by
  go_enter Tryf.func10, Tryf.ntmps10
  go_wp2
  go_ret
  exact ⟨rfl, rfl⟩

theorem name_7 (w : World) : Calls Tryf.prog 10 #[.int .i64 7] w fun e w' => e = .returned (.string (nameB 7)) ∧ w' = w := by
  go_enter Tryf.func10, Tryf.ntmps10
  go_wp2
  go_ret
  exact ⟨rfl, rfl⟩

theorem name_8 (w : World) : Calls Tryf.prog 10 #[.int .i64 8] w fun e w' => e = .returned (.string (nameB 8)) ∧ w' = w := by
  go_enter Tryf.func10, Tryf.ntmps10
  go_wp2
  go_ret
  exact ⟨rfl, rfl⟩

theorem name_9 (w : World) : Calls Tryf.prog 10 #[.int .i64 9] w fun e w' => e = .returned (.string (nameB 9)) ∧ w' = w := by
  go_enter Tryf.func10, Tryf.ntmps10
  go_wp2
  go_ret
  exact ⟨rfl, rfl⟩

theorem name_10 (w : World) : Calls Tryf.prog 10 #[.int .i64 10] w fun e w' => e = .returned (.string (nameB 10)) ∧ w' = w := by
  go_enter Tryf.func10, Tryf.ntmps10
  go_wp2
  go_ret
  exact ⟨rfl, rfl⟩

theorem name_11 (w : World) : Calls Tryf.prog 10 #[.int .i64 11] w fun e w' => e = .returned (.string (nameB 11)) ∧ w' = w := by
  go_enter Tryf.func10, Tryf.ntmps10
  go_wp2
  go_ret
  exact ⟨rfl, rfl⟩

theorem name_12 (w : World) : Calls Tryf.prog 10 #[.int .i64 12] w fun e w' => e = .returned (.string (nameB 12)) ∧ w' = w := by
  go_enter Tryf.func10, Tryf.ntmps10
  go_wp2
  go_ret
  exact ⟨rfl, rfl⟩

theorem name_13 (w : World) : Calls Tryf.prog 10 #[.int .i64 13] w fun e w' => e = .returned (.string (nameB 13)) ∧ w' = w := by
  go_enter Tryf.func10, Tryf.ntmps10
  go_wp2
  go_ret
  exact ⟨rfl, rfl⟩

theorem name_lo (c : Int) (h : c < 0) (w : World) : Calls Tryf.prog 10 #[.int .i64 c] w fun e w' => e = .returned (.string (nameB c)) ∧ w' = w := by
  have hn : nameB c = nameB (-1) := by unfold nameB; repeat rw [if_neg (by omega)]
  rw [hn]
  go_enter Tryf.func10, Tryf.ntmps10
  go_wp2
  go_ret
  exact ⟨rfl, rfl⟩

theorem name_hi (c : Int) (h : 13 < c) (w : World) : Calls Tryf.prog 10 #[.int .i64 c] w fun e w' => e = .returned (.string (nameB c)) ∧ w' = w := by
  have hn : nameB c = nameB (-1) := by unfold nameB; repeat rw [if_neg (by omega)]
  rw [hn]
  go_enter Tryf.func10, Tryf.ntmps10
  go_wp2
  go_ret
  exact ⟨rfl, rfl⟩

theorem name_any (c : Int) (w : World) :
    Calls Tryf.prog 10 #[.int .i64 c] w fun e w' => e = .returned (.string (nameB c)) ∧ w' = w := by
  by_cases h0 : c = 0
  · rw [h0]; exact name_0 w
  by_cases h1 : c = 1
  · rw [h1]; exact name_1 w
  by_cases h2 : c = 2
  · rw [h2]; exact name_2 w
  by_cases h3 : c = 3
  · rw [h3]; exact name_3 w
  by_cases h4 : c = 4
  · rw [h4]; exact name_4 w
  by_cases h5 : c = 5
  · rw [h5]; exact name_5 w
  by_cases h6 : c = 6
  · rw [h6]; exact name_6 w
  by_cases h7 : c = 7
  · rw [h7]; exact name_7 w
  by_cases h8 : c = 8
  · rw [h8]; exact name_8 w
  by_cases h9 : c = 9
  · rw [h9]; exact name_9 w
  by_cases h10 : c = 10
  · rw [h10]; exact name_10 w
  by_cases h11 : c = 11
  · rw [h11]; exact name_11 w
  by_cases h12 : c = 12
  · rw [h12]; exact name_12 w
  by_cases h13 : c = 13
  · rw [h13]; exact name_13 w
  by_cases hl : c < 0
  · exact name_lo c hl w
  · exact name_hi c (by omega) w

theorem itoa7 (w : World) :
    Calls Tryf.prog 16 #[.int .i64 7] w fun e w' => e = .returned (.string ⟨#[55]⟩) ∧ w' = w := by
  go_enter Tryf.func16, Tryf.ntmps16
  go_wp2
  go_ret
  exact ⟨rfl, rfl⟩

theorem name_7l (w : World) : Calls Tryf.prog 10 #[.int .i64 7] w fun e w' => e = .returned (.string ⟨#[115, 117, 109]⟩) ∧ w' = w := name_7 w

theorem error7 (w : World) :
    Calls Tryf.prog 13 #[.agg #[.int .i64 7, .int .i64 7]] w fun e w' => e = .returned (.string ⟨#[115, 117, 109, 32, 97, 116, 32, 55]⟩) ∧ Below w.heap.size w w' := by
  have h1 : ∀ W : World, (Op.stringOp .add ⟨#[115, 117, 109]⟩ ⟨#[32, 97, 116, 32]⟩).run Tryf.prog W = .ok (.string ⟨#[115, 117, 109, 32, 97, 116, 32]⟩) W := fun W => run_string_add_sum W _ _ (by decide)
  have h2 : ∀ W : World, (Op.stringOp .add ⟨#[115, 117, 109, 32, 97, 116, 32]⟩ ⟨#[55]⟩).run Tryf.prog W = .ok (.string ⟨#[115, 117, 109, 32, 97, 116, 32, 55]⟩) W := fun W => run_string_add_sum W _ _ (by decide)
  go_enter Tryf.func13, Tryf.ntmps13
  go_wp2
  go_quiet ((first | (go_at_call 10; exact Calls.quiet_of_same (name_7l _)) | (go_at_call 16; exact Calls.quiet_of_same (itoa7 _))))
  go_wp2
  go_ret
  exact ⟨rfl, below_drewN ((Below.refl _ _).alloc (Nat.le_refl _) _) _⟩

theorem new_some (c a : Int) (h : (c == 0) = false) (w : World) :
    Calls Tryf.prog 9 #[.int .i64 c, .int .i64 a] w fun e w' => e = .returned (.iface 25 (.agg #[.int .i64 c, .int .i64 a])) ∧ w' = w := by
  go_enter Tryf.func9, Tryf.ntmps9
  go_wp2
  go_ret
  exact ⟨rfl, rfl⟩

theorem alive_any (w : World) :
    Calls Tryf.prog 4 #[] w fun e w' => e = .returned (.bool true) ∧ Below w.heap.size w w' := by
  go_enter Tryf.func4, Tryf.ntmps4
  go_wp2_with (first | (go_at_call 6; refine (of_any _ _ _).mono ?_; rintro e w1 ⟨rfl, hb1⟩) | (go_at_call 13; refine (error7 _).mono ?_; rintro e w2 ⟨rfl, hb2⟩; have hc2 := fun o => hb2.cell (p := ⟨w1.heap.size, o, none⟩) (by simp)) | (go_at_call 8; refine (code_any _ _ _).mono ?_; rintro e w3 ⟨rfl, hb3⟩) | go_in)
  go_ret
  have z1 := hb1.size
  have z2 := hb2.size
  simp at z2
  exact ⟨rfl, ((hb1.alloc hb1.size _).trans (hb2.mono (by simp; omega))).trans (hb3.mono (by omega))⟩

theorem nameB_size (c : Int) : (nameB c).size ≤ 6 := by
  by_cases h : c < 0 ∨ 13 < c
  · have hn : nameB c = nameB (-1) := by unfold nameB; repeat rw [if_neg (by omega)]
    rw [hn]; decide +kernel
  · have hf : ∀ i : Fin 14, (nameB (i.val : Int)).size ≤ 6 := by decide +kernel
    have := hf ⟨c.toNat, by omega⟩
    rwa [show ((⟨c.toNat, by omega⟩ : Fin 14).val : Int) = c by simp; omega] at this


@[go_sem] theorem as_ot (v : Value) (w : World) : (Instr.typeAssert (.iface 29 v) 27 25 true).run Tryf.prog w = .ok (.tuple #[.agg #[.int .i64 0, .int .i64 0], .bool false]) w := by kernel_rfl
@[go_sem] theorem as_otm (v : Value) (w : World) : (Instr.typeAssert (.iface 29 v) 27 25 false).run Tryf.prog w = .halt (.panic (.iface Tryf.prog.rt.typeAssertionError (.pointer (some ⟨w.heap.size, 0, none⟩)))) (w.alloc (.cells #[typeHandle Tryf.prog 27, typeHandle Tryf.prog 29, typeHandle Tryf.prog 25, strVal ""] 68)) := by kernel_rfl

theorem of_ot (v : Value) (w : World) :
    Calls Tryf.prog 6 #[.iface 29 v] w fun e w' => e = .returned (.tuple #[.agg #[.int .i64 0, .int .i64 0], .bool false]) ∧ Below w.heap.size w w' := by
  go_enter Tryf.func6, Tryf.ntmps6
  go_wp2
  exact bodyPost_ret (v := .tuple #[.agg #[.int .i64 0, .int .i64 0], .bool false]) (by simp [results, Tryf.results6, go_sem]) rfl ⟨rfl, ((Below.refl _ _).alloc (Nat.le_refl _) _).alloc (by simp) _⟩

theorem code_ot (v : Value) (w : World) :
    Calls Tryf.prog 8 #[.iface 29 v] w fun e w' => e = .returned (.int .i64 11) ∧ Below w.heap.size w w' := by
  go_enter Tryf.func8, Tryf.ntmps8
  go_wp2_with (go_at_call 6; refine (of_ot _ _).mono ?_; rintro e w1 ⟨rfl, hb⟩)
  go_ret
  exact ⟨rfl, hb.trans ((Below.refl _ _).alloc hb.size _)⟩

theorem must_otpanics (v : Value) (w : World) :
    Calls Tryf.prog 15 #[.iface 29 v] w fun e w' => ∃ p, e = .panicked [{ v := .iface 15 p, recovered := false }] ∧ Below w.heap.size w w' := by
  go_enter Tryf.func15, Tryf.ntmps15
  go_wp2
  exact ⟨rfl, _, rfl, ((Below.refl _ _).alloc (Nat.le_refl _) _).alloc (by simp) _⟩

theorem must_ot (v : Value) (w : World) :
    Calls Tryf.prog 7 #[.iface 29 v] w fun e w' => e = .returned (.tuple #[.agg #[.int .i64 0, .int .i64 0], .bool true]) ∧ Below w.heap.size w w' := by
  have hm := hmf
  go_enter_defers Tryf.func7, Tryf.ntmps7
  go_wp2_with (go_at_call 15; refine (must_otpanics _ _).mono ?_; rintro e w1 ⟨p, rfl, hb1⟩; have hc1 := fun o => hb1.cell (p := ⟨w.heap.size, o, none⟩) (by simp; omega); have hd1 := fun o => hb1.cell (p := ⟨w.heap.size + 1, o, none⟩) (by simp); have hg1 := fun o => hb1.frozen (p := ⟨w.heap.size + 1, o, none⟩) (by simp))
  refine leaves_cons (f := 14) (args := #[.pointer (some ⟨w.heap.size + 1, 0, none⟩)]) (by simp) (by simp [go_sem]) ?_
  refine (catch_panicking ⟨w.heap.size + 1, 0, none⟩ false _ _ [] _ ?_ ?_).mono ?_
  · simp [go_sem, hd1]
  · simp [go_sem, hg1]
  rintro e u' w'' ⟨rfl, rfl, rfl⟩
  have hB : Below w.heap.size w w1 := (((Below.refl _ _).alloc (Nat.le_refl _) _).alloc (by simp) _).trans (hb1.mono (by simp; omega))
  simp [Leaves, settle, results, Tryf.results7, go_sem, hc1, hd1]
  exact hB.setCell (Nat.le_succ _) _

@[go_sem] theorem as_pf (v : Value) (w : World) : (Instr.typeAssert (.iface 31 v) 27 25 true).run Tryf.prog w = .ok (.tuple #[.agg #[.int .i64 0, .int .i64 0], .bool false]) w := by kernel_rfl
@[go_sem] theorem as_pfm (v : Value) (w : World) : (Instr.typeAssert (.iface 31 v) 27 25 false).run Tryf.prog w = .halt (.panic (.iface Tryf.prog.rt.typeAssertionError (.pointer (some ⟨w.heap.size, 0, none⟩)))) (w.alloc (.cells #[typeHandle Tryf.prog 27, typeHandle Tryf.prog 31, typeHandle Tryf.prog 25, strVal ""] 68)) := by kernel_rfl

theorem of_pf (v : Value) (w : World) :
    Calls Tryf.prog 6 #[.iface 31 v] w fun e w' => e = .returned (.tuple #[.agg #[.int .i64 0, .int .i64 0], .bool false]) ∧ Below w.heap.size w w' := by
  go_enter Tryf.func6, Tryf.ntmps6
  go_wp2
  exact bodyPost_ret (v := .tuple #[.agg #[.int .i64 0, .int .i64 0], .bool false]) (by simp [results, Tryf.results6, go_sem]) rfl ⟨rfl, ((Below.refl _ _).alloc (Nat.le_refl _) _).alloc (by simp) _⟩

theorem code_pf (v : Value) (w : World) :
    Calls Tryf.prog 8 #[.iface 31 v] w fun e w' => e = .returned (.int .i64 11) ∧ Below w.heap.size w w' := by
  go_enter Tryf.func8, Tryf.ntmps8
  go_wp2_with (go_at_call 6; refine (of_pf _ _).mono ?_; rintro e w1 ⟨rfl, hb⟩)
  go_ret
  exact ⟨rfl, hb.trans ((Below.refl _ _).alloc hb.size _)⟩

theorem must_pfpanics (v : Value) (w : World) :
    Calls Tryf.prog 15 #[.iface 31 v] w fun e w' => ∃ p, e = .panicked [{ v := .iface 15 p, recovered := false }] ∧ Below w.heap.size w w' := by
  go_enter Tryf.func15, Tryf.ntmps15
  go_wp2
  exact ⟨rfl, _, rfl, ((Below.refl _ _).alloc (Nat.le_refl _) _).alloc (by simp) _⟩

theorem must_pf (v : Value) (w : World) :
    Calls Tryf.prog 7 #[.iface 31 v] w fun e w' => e = .returned (.tuple #[.agg #[.int .i64 0, .int .i64 0], .bool true]) ∧ Below w.heap.size w w' := by
  have hm := hmf
  go_enter_defers Tryf.func7, Tryf.ntmps7
  go_wp2_with (go_at_call 15; refine (must_pfpanics _ _).mono ?_; rintro e w1 ⟨p, rfl, hb1⟩; have hc1 := fun o => hb1.cell (p := ⟨w.heap.size, o, none⟩) (by simp; omega); have hd1 := fun o => hb1.cell (p := ⟨w.heap.size + 1, o, none⟩) (by simp); have hg1 := fun o => hb1.frozen (p := ⟨w.heap.size + 1, o, none⟩) (by simp))
  refine leaves_cons (f := 14) (args := #[.pointer (some ⟨w.heap.size + 1, 0, none⟩)]) (by simp) (by simp [go_sem]) ?_
  refine (catch_panicking ⟨w.heap.size + 1, 0, none⟩ false _ _ [] _ ?_ ?_).mono ?_
  · simp [go_sem, hd1]
  · simp [go_sem, hg1]
  rintro e u' w'' ⟨rfl, rfl, rfl⟩
  have hB : Below w.heap.size w w1 := (((Below.refl _ _).alloc (Nat.le_refl _) _).alloc (by simp) _).trans (hb1.mono (by simp; omega))
  simp [Leaves, settle, results, Tryf.results7, go_sem, hc1, hd1]
  exact hB.setCell (Nat.le_succ _) _

@[go_sem] theorem as_we (v : Value) (w : World) : (Instr.typeAssert (.iface 42 v) 27 25 true).run Tryf.prog w = .ok (.tuple #[.agg #[.int .i64 0, .int .i64 0], .bool false]) w := by kernel_rfl
@[go_sem] theorem as_wem (v : Value) (w : World) : (Instr.typeAssert (.iface 42 v) 27 25 false).run Tryf.prog w = .halt (.panic (.iface Tryf.prog.rt.typeAssertionError (.pointer (some ⟨w.heap.size, 0, none⟩)))) (w.alloc (.cells #[typeHandle Tryf.prog 27, typeHandle Tryf.prog 42, typeHandle Tryf.prog 25, strVal ""] 68)) := by kernel_rfl

theorem of_we (v : Value) (w : World) :
    Calls Tryf.prog 6 #[.iface 42 v] w fun e w' => e = .returned (.tuple #[.agg #[.int .i64 0, .int .i64 0], .bool false]) ∧ Below w.heap.size w w' := by
  go_enter Tryf.func6, Tryf.ntmps6
  go_wp2
  exact bodyPost_ret (v := .tuple #[.agg #[.int .i64 0, .int .i64 0], .bool false]) (by simp [results, Tryf.results6, go_sem]) rfl ⟨rfl, ((Below.refl _ _).alloc (Nat.le_refl _) _).alloc (by simp) _⟩

theorem code_we (v : Value) (w : World) :
    Calls Tryf.prog 8 #[.iface 42 v] w fun e w' => e = .returned (.int .i64 11) ∧ Below w.heap.size w w' := by
  go_enter Tryf.func8, Tryf.ntmps8
  go_wp2_with (go_at_call 6; refine (of_we _ _).mono ?_; rintro e w1 ⟨rfl, hb⟩)
  go_ret
  exact ⟨rfl, hb.trans ((Below.refl _ _).alloc hb.size _)⟩

theorem must_wepanics (v : Value) (w : World) :
    Calls Tryf.prog 15 #[.iface 42 v] w fun e w' => ∃ p, e = .panicked [{ v := .iface 15 p, recovered := false }] ∧ Below w.heap.size w w' := by
  go_enter Tryf.func15, Tryf.ntmps15
  go_wp2
  exact ⟨rfl, _, rfl, ((Below.refl _ _).alloc (Nat.le_refl _) _).alloc (by simp) _⟩

theorem must_we (v : Value) (w : World) :
    Calls Tryf.prog 7 #[.iface 42 v] w fun e w' => e = .returned (.tuple #[.agg #[.int .i64 0, .int .i64 0], .bool true]) ∧ Below w.heap.size w w' := by
  have hm := hmf
  go_enter_defers Tryf.func7, Tryf.ntmps7
  go_wp2_with (go_at_call 15; refine (must_wepanics _ _).mono ?_; rintro e w1 ⟨p, rfl, hb1⟩; have hc1 := fun o => hb1.cell (p := ⟨w.heap.size, o, none⟩) (by simp; omega); have hd1 := fun o => hb1.cell (p := ⟨w.heap.size + 1, o, none⟩) (by simp); have hg1 := fun o => hb1.frozen (p := ⟨w.heap.size + 1, o, none⟩) (by simp))
  refine leaves_cons (f := 14) (args := #[.pointer (some ⟨w.heap.size + 1, 0, none⟩)]) (by simp) (by simp [go_sem]) ?_
  refine (catch_panicking ⟨w.heap.size + 1, 0, none⟩ false _ _ [] _ ?_ ?_).mono ?_
  · simp [go_sem, hd1]
  · simp [go_sem, hg1]
  rintro e u' w'' ⟨rfl, rfl, rfl⟩
  have hB : Below w.heap.size w w1 := (((Below.refl _ _).alloc (Nat.le_refl _) _).alloc (by simp) _).trans (hb1.mono (by simp; omega))
  simp [Leaves, settle, results, Tryf.results7, go_sem, hc1, hd1]
  exact hB.setCell (Nat.le_succ _) _

@[go_sem] theorem as_po (v : Value) (w : World) : (Instr.typeAssert (.iface 33 v) 27 25 true).run Tryf.prog w = .ok (.tuple #[.agg #[.int .i64 0, .int .i64 0], .bool false]) w := by kernel_rfl
@[go_sem] theorem as_pom (v : Value) (w : World) : (Instr.typeAssert (.iface 33 v) 27 25 false).run Tryf.prog w = .halt (.panic (.iface Tryf.prog.rt.typeAssertionError (.pointer (some ⟨w.heap.size, 0, none⟩)))) (w.alloc (.cells #[typeHandle Tryf.prog 27, typeHandle Tryf.prog 33, typeHandle Tryf.prog 25, strVal ""] 68)) := by kernel_rfl

theorem of_po (v : Value) (w : World) :
    Calls Tryf.prog 6 #[.iface 33 v] w fun e w' => e = .returned (.tuple #[.agg #[.int .i64 0, .int .i64 0], .bool false]) ∧ Below w.heap.size w w' := by
  go_enter Tryf.func6, Tryf.ntmps6
  go_wp2
  exact bodyPost_ret (v := .tuple #[.agg #[.int .i64 0, .int .i64 0], .bool false]) (by simp [results, Tryf.results6, go_sem]) rfl ⟨rfl, ((Below.refl _ _).alloc (Nat.le_refl _) _).alloc (by simp) _⟩

theorem code_po (v : Value) (w : World) :
    Calls Tryf.prog 8 #[.iface 33 v] w fun e w' => e = .returned (.int .i64 11) ∧ Below w.heap.size w w' := by
  go_enter Tryf.func8, Tryf.ntmps8
  go_wp2_with (go_at_call 6; refine (of_po _ _).mono ?_; rintro e w1 ⟨rfl, hb⟩)
  go_ret
  exact ⟨rfl, hb.trans ((Below.refl _ _).alloc hb.size _)⟩

theorem must_popanics (v : Value) (w : World) :
    Calls Tryf.prog 15 #[.iface 33 v] w fun e w' => ∃ p, e = .panicked [{ v := .iface 15 p, recovered := false }] ∧ Below w.heap.size w w' := by
  go_enter Tryf.func15, Tryf.ntmps15
  go_wp2
  exact ⟨rfl, _, rfl, ((Below.refl _ _).alloc (Nat.le_refl _) _).alloc (by simp) _⟩

theorem must_po (v : Value) (w : World) :
    Calls Tryf.prog 7 #[.iface 33 v] w fun e w' => e = .returned (.tuple #[.agg #[.int .i64 0, .int .i64 0], .bool true]) ∧ Below w.heap.size w w' := by
  have hm := hmf
  go_enter_defers Tryf.func7, Tryf.ntmps7
  go_wp2_with (go_at_call 15; refine (must_popanics _ _).mono ?_; rintro e w1 ⟨p, rfl, hb1⟩; have hc1 := fun o => hb1.cell (p := ⟨w.heap.size, o, none⟩) (by simp; omega); have hd1 := fun o => hb1.cell (p := ⟨w.heap.size + 1, o, none⟩) (by simp); have hg1 := fun o => hb1.frozen (p := ⟨w.heap.size + 1, o, none⟩) (by simp))
  refine leaves_cons (f := 14) (args := #[.pointer (some ⟨w.heap.size + 1, 0, none⟩)]) (by simp) (by simp [go_sem]) ?_
  refine (catch_panicking ⟨w.heap.size + 1, 0, none⟩ false _ _ [] _ ?_ ?_).mono ?_
  · simp [go_sem, hd1]
  · simp [go_sem, hg1]
  rintro e u' w'' ⟨rfl, rfl, rfl⟩
  have hB : Below w.heap.size w w1 := (((Below.refl _ _).alloc (Nat.le_refl _) _).alloc (by simp) _).trans (hb1.mono (by simp; omega))
  simp [Leaves, settle, results, Tryf.results7, go_sem, hc1, hd1]
  exact hB.setCell (Nat.le_succ _) _

end Go.Proofs.YtfalihhbcpjmgaaFmt
