/-
  The Go function lexiphanelaw4.CrcZeros returns true for every two integers of 64 bits: bytes of 0 make another sum for each number of them.
  No condition: whatever the input, in whatever memory; the arguments read as before.
-/
import Derived.Test.YtipmihdnfbhmkaaCrc
import Derived.Deep.RegionWith
import Derived.Deep.RegionLaw
import Derived.Deep.RegionHeldLaw
import Derived.BigRegion
namespace Go.Proofs.Ytipmihdnfbhmkaa
open Go.ChangeShapes Go.WideShapes Go.ChangeAt Go.RowKit

/-- n bytes of 0. -/
def zeros (n : Nat) : ByteArray := bytesOf (List.replicate n 0)

theorem zeros_size (n : Nat) : (zeros n).size = n := by rw [zeros, bytesOf_size, List.length_replicate]

theorem nums_zeros (n : Nat) : nums (zeros n) = List.replicate n 0 := nums_bytesOf _ (by intro x hx; have := List.eq_of_mem_replicate hx; omega)

theorem crc_zeros (n m : Nat) (hn : n ≤ 2000) (hm : m ≤ 2000) : crc (zeros n) = crc (zeros m) ↔ n = m := by
  constructor
  · intro h
    have h1 := xor_right_inj h
    rw [nums_zeros, nums_zeros] at h1
    exact zeros_inj n m hn hm h1
  · rintro rfl; rfl

/-- A row of n bytes of 0 at block g. -/
def Zs (w : World) (g n : Nat) : Prop := w.heap[g]? = some (.cells (Array.replicate n (.int .u8 0)) 5 (0, 0))

theorem conv_zeros {w : World} {g n : Nat} (h : Zs w g n) :
    (convert 32 9 (.slice (some ⟨g, 0, none⟩) n n)).run Try.prog w = .ok (.string (zeros n)) w := by
  rw [run_convert_bytes_arg (P := Try.prog) w 32 5 Try.underlying32 Try.underlying5 g 0 n n ((List.replicate n 0).map fun x : Nat => (x : Int)) (by simp) (fun i hi => by
    rw [Nat.zero_add, cell_of_row _ _ _ _ _ _ h]
    simp [hi]) 9 Try.underlying9, bytesOf_strs]
  rfl

theorem Try.infoByte : (Try.prog.info? 5).map (fun i => (i.zero, i.size, i.bytes)) = some (some (.int .u8 0), 1, 1) := by kernel_rfl

theorem below_alloc {w x : World} (h : Below w.heap.size w x) (o : Obj) : Below w.heap.size w (x.alloc o) := h.alloc h.size o

theorem Zs.drew {w : World} {g n : Nat} (h : Zs w g n) : Zs w.drew g n := h
theorem Zs.new (w : World) (n : Nat) : Zs (w.alloc (.cells (madeCells #[.int .u8 0] n) 5)) w.heap.size n := by
  have e : madeCells #[.int .u8 0] n = Array.replicate n (.int .u8 0) := by
    apply Array.ext
    · simp [madeCells]
    · intro i h1 h2
      simp [madeCells, Nat.mod_one]
  rw [e]
  exact heap_alloc_new w _
theorem Zs.alloc {w : World} {g n : Nat} (h : Zs w g n) (o : Obj) : Zs (w.alloc o) g n := (Below.heap_alloc w o g (Array.getElem?_eq_some_iff.1 h).1).trans h

theorem of_over (b : ByteArray) (hb : b.size ≤ 140737488351232) (w0 w : World) (h0 : Below w0.heap.size w0 w) :
    Calls Try.prog 13 #[.string b] w fun e w' => e = .returned (.int .u32 (crc b : Nat)) ∧ Below w0.heap.size w0 w' ∧ ∀ (g n : Nat), Zs w g n → Zs w' g n := by
  refine (of_any b hb w).mono ?_
  rintro e w' ⟨rfl, h⟩
  exact ⟨rfl, below_more h0 h, fun g n hn => (h.block g (Array.getElem?_eq_some_iff.1 hn).1).trans hn⟩

set_option maxRecDepth 20000 in
set_option maxHeartbeats 4000000 in
theorem zeros_walk (n m : Int) (w : World) : Calls Try.prog 5 #[.int .i64 n, .int .i64 m] w fun e w' => e = .returned (.bool true) ∧ Below w.heap.size w w' := by
  by_cases hl : 0 ≤ n ∧ 0 ≤ m ∧ n ≤ 2000 ∧ m ≤ 2000
  · obtain ⟨hn0, hm0, hn, hm⟩ := hl
    obtain ⟨n, rfl⟩ := Int.eq_ofNat_of_zero_le hn0
    obtain ⟨m, rfl⟩ := Int.eq_ofNat_of_zero_le hm0
    have hmk := run_make_row' (P := Try.prog) 32 5 (.int .u8 0) 1 Try.underlying32 Try.infoByte rfl .i64 .i64 n (by omega) (by omega)
    have hmk2 := run_make_row' (P := Try.prog) 32 5 (.int .u8 0) 1 Try.underlying32 Try.infoByte rfl .i64 .i64 m (by omega) (by omega)
    have z1 : ∀ (w : World) (g n : Nat), Zs w.drew g n = Zs w g n := fun _ _ _ => rfl
    have z2 := Zs.new
    have z3 : ∀ (w : World) (g n : Nat) (o : Obj), Zs w g n → Zs (w.alloc o) g n := fun _ _ _ o h => h.alloc o
    have z5 : ∀ (w : World) (n : Nat) (o : Obj), Zs ((w.alloc o).alloc (.cells (madeCells #[.int .u8 0] n) 5)) (w.heap.size + 1) n := fun w n o => by
      have h := Zs.new (w.alloc o) n
      rwa [World.size_alloc] at h
    have z6 : ∀ (w : World) (n : Nat) (o : Obj), Zs ((w.alloc (.cells (madeCells #[.int .u8 0] n) 5)).alloc o) w.heap.size n := fun w n o => (Zs.new w n).alloc o
    have z4 : ∀ (w : World) (g n : Nat), Zs w g n → (convert 32 9 (.slice (some ⟨g, 0, none⟩) n n)).run Try.prog w = .ok (.string (zeros n)) w := fun _ _ _ h => conv_zeros h
    have hq : (((crc (zeros n) : Int) == (crc (zeros m) : Int)) == ((n : Int) == (m : Int))) = true := by
      have h := crc_zeros n m (by omega) (by omega)
      by_cases e : n = m
      · subst e; simp
      · rw [show ((n : Int) == (m : Int)) = false from beq_false_of_ne (by omega), show ((crc (zeros n) : Int) == (crc (zeros m) : Int)) = false from beq_false_of_ne (fun e' => e (h.1 (by omega)))]
        rfl
    go_enter Try.func5, Try.ntmps5
    go_wp2_with (go_at_call 9; refine (alive_any _).mono ?_; rintro e w1 ⟨rfl, hb1⟩)
    go_region_held_law (fun w' => Below w.heap.size w w') (repeat (first | assumption | refine Below.drew ?_ | refine below_alloc ?_ _)) (first
      | (have _h := later; go_at_call 13; refine (of_over (zeros m) (by rw [zeros_size]; omega) w _ (by assumption)).mono ?_; rintro e w3 ⟨rfl, hb3, hk3⟩)
      | (go_at_call 13; refine (of_over (zeros n) (by rw [zeros_size]; omega) w _ (by assumption)).mono ?_; rintro e w2 ⟨rfl, hw2, hk2⟩; have later : True := trivial))
    all_goals
      go_wp2
      go_ret
      exact ⟨rfl, by assumption⟩
  · have hf : n < 0 ∨ (0 ≤ n ∧ m < 0) ∨ (0 ≤ n ∧ 0 ≤ m ∧ 2000 < n) ∨ (0 ≤ n ∧ 0 ≤ m ∧ n ≤ 2000 ∧ 2000 < m) := by omega
    clear hl
    rcases hf with h1 | ⟨h1, h2⟩ | ⟨h1, h2, h3⟩ | ⟨h1, h2, h3, h4⟩
    all_goals
      go_enter Try.func5, Try.ntmps5
      go_wp2_with (go_at_call 9; refine (alive_any _).mono ?_; rintro e w1 ⟨rfl, hb1⟩)
      go_ret
      exact ⟨rfl, hb1⟩

set_option linter.unusedVariables false
theorem crcZeros_own : ownKnob Try.prog.godebug = none := by kernel_rfl

set_option maxRecDepth 100000 in
theorem crcZeros_lifted (os : Os) (started : os.Started) (H : Type) (enc : TypeId × Value → H) :
    ReturnsInHanded {} Try.checked os 5 .any (Rows.crcZerosSpec.pre6 enc Try.prog Try.f5 Rows.crcZerosRow.domain false) (Rows.crcZerosSpec.post enc Try.prog Try.f5 false true false false) := by
  refine returnsInHanded_of_change (C := Try.checked) crcZeros_own started (by kernel_rfl) Try.func5
    (ChangeSpec.witness6 (enc := enc) (C := Try.checked) false ⟨#[], #[.int .i64 0, .int .i64 0], []⟩ 8 (by kernel_rfl) (by kernel_rfl) (by kernel_rfl) (by kernel_rfl)) ?_
  intro W base args ds gs before hval0 hW hcnd _
  have hval : ∀ (j : Nat) t v, Try.f5.params[j]? = some t → args[j]? = some v → Value.okWide Try.prog W .any base t v := hval0
  have hW' := hW
  obtain ⟨p, q, hA0, hV, rfl, hfz, hnd⟩ := hW
  have hA : DataW.TrodAll enc Try.prog W 0 (fun _ => true) true Try.f5.params.toList args.toList ds p := hA0
  rw [Try.params5] at hA hval
  obtain ⟨v0, vs0, d0, ds0, p0, q0, hargs, rfl, rfl, h0, r0⟩ := trodAll_cons hA
  obtain ⟨v1, vs1, d1, ds1, p1, q1, rfl, rfl, rfl, h1, r1⟩ := trodAll_cons r0
  obtain ⟨rfl, rfl, rfl⟩ := trodAll_nil r1
  obtain rfl : args = #[v0, v1] := by cases args; simp_all
  obtain ⟨rfl, rfl⟩ := trodVars_none hV
  obtain ⟨a0, rfl, rfl, rfl, w0⟩ := open_int Try.underlying3 (hval 0 3 v0 rfl rfl) h0
  obtain ⟨a1, rfl, rfl, rfl, w1⟩ := open_int Try.underlying3 (hval 1 3 v1 rfl rfl) h1
  clear hA0 hval0
  refine (zeros_walk a0 a1 W).mono fun e W' ⟨he, bel⟩ => ?_
  subst he
  exact ⟨_, rfl, _, _, _, [], _, [], hW', trodAll_mk1 (shut_bool Try.underlying4 _), (trodAll_cons_mk (shut_int Try.underlying3 w0) (trodAll_cons_mk (shut_int Try.underlying3 w1) trodAll_mk0)), rfl, bel.frame _, fun h => by cases h⟩

/-- THE STATEMENT. -/
theorem crcZeros_holds : Rows.CrcZerosSaid :=
  OpenClaim.holds_of_wide 5 Try.f5 rfl rfl rfl rfl rfl rfl rfl ⟨rfl, rfl, rfl, rfl, rfl⟩ rfl rfl rfl rfl rfl (by kernel_rfl) Try.func5 (by kernel_rfl)
    (of_decide_eq_true (by kernel_rfl)) (by unfold Func.isWrapper; first | (rw [if_pos (by decide +kernel)]; kernel_rfl) | (rw [if_neg (by decide +kernel)]; exact ⟨rfl, rfl⟩))
    (fun os started H enc _ => crcZeros_lifted os started H enc)
#print axioms crcZeros_holds
end Go.Proofs.Ytipmihdnfbhmkaa
