/-
  The Go function lexiphanelaw2.BitsRest returns true for every text b and every integer n of 64 bits: a reader is at its end, if fewer than eight bits are left, and all are 0.
  No condition: whatever the input, in whatever memory; the arguments read as before.
-/
import Derived.Test.YtlnhfdcmnlinkaaBitAlive
import Derived.ShutString
namespace Go.Proofs.Ytlnhfdcmnlinkaa
open Go.ChangeShapes Go.WideShapes Go.ChangeAt Go.RowKit
open Go.ChangeMaps (open_string shut_string)

/-- The bits that are left of the last byte. -/
theorem rest_bits (b : ByteArray) (m : Nat) (h0 : m < 8 * b.size) (h8 : 8 * b.size - m < 8) : num b m (8 * b.size - m) = byteN b (b.size - 1) % 2 ^ (8 * b.size - m) := by
  have h := num_part b (8 * (b.size - 1)) (8 - (8 * b.size - m)) (8 * b.size - m) 0
  rw [show 8 - (8 * b.size - m) + (8 * b.size - m) + 0 = 8 by omega, num_byte, Nat.pow_zero, Nat.div_one, show 8 * (b.size - 1) + (8 - (8 * b.size - m)) = m by omega] at h
  exact h.symm

theorem rest_eq (X q : Nat) (hX : X < 256) (hq : q < 8) : (decide (X % 2 ^ q = 0) == (bits .and .i64 (wrap64 (X : Int)) (wrap64 (wrap64 (2 ^ q) - 1)) == 0)) = true := by
  rw [IntWalk.wrap64_in (X : Int) ⟨by omega, by omega⟩, and_end X q (by omega) hq]
  simp only [beq_iff_eq]
  rw [Bool.eq_iff_iff]
  simp only [decide_eq_true_eq, beq_iff_eq]
  omega

theorem last_byte (b : ByteArray) (h : 1 ≤ b.size) (w : World) : (Instr.index 9 (.string b) (.int .i64 ((b.size : Int) - 1))).run Try.prog w = .ok (.int .u8 (byteN b (b.size - 1) : Int)) w := by
  rw [run_index_string w 9 b .i64 _ Try.underlying9, dif_pos ⟨by omega, by omega⟩, byteN_in b (b.size - 1) (by omega)]
  have e : ((b.size : Int) - 1).toNat = b.size - 1 := by omega
  simp only [e]

set_option maxHeartbeats 2000000 in
theorem rest_walk (b : ByteArray) (n : Int) (w : World) : Calls Try.prog 6 #[.string b, .int .i64 n] w fun e w' => e = .returned (.bool true) ∧ Below w.heap.size w w' := by
  by_cases h1 : b.size ≤ 60 ∧ 0 ≤ n ∧ n ≤ 8 * b.size
  · obtain ⟨h1, h2, h3⟩ := h1
    obtain ⟨m, rfl⟩ := Int.eq_ofNat_of_zero_le h2
    rcases (show 8 ≤ 8 * b.size - m ∨ 8 * b.size ≤ m ∨ (m < 8 * b.size ∧ 8 * b.size - m < 8) by omega) with h4 | h4 | ⟨h4, h5⟩
    · have hd : decide (8 * b.size - m < 8 ∧ num b m (8 * b.size - m) = 0) = false := decide_eq_false (by omega)
      go_enter Try.func6, Try.ntmps6
      go_wp2_with (first
        | (go_at_call 9; refine (alive_any _).mono ?_; rintro e w1 ⟨rfl, hb1⟩; have hR := RdAt.new b (by omega) w1)
        | (go_at_call 10; refine (newReader_any _ _).mono ?_; rintro e w2 ⟨rfl, rfl⟩)
        | (go_at_call 14; refine (skip_any hR m (by omega)).mono ?_; rintro e w3 ⟨rfl, hR3, hk3⟩; rw [Nat.zero_add] at hR3)
        | (go_at_call 18; refine (left_any (b := b) (g := m) ?_).mono ?_; (first | exact hR3.drewN _ | exact hR3); rintro e w4 ⟨rfl, k4, rfl⟩)
        | (go_at_call 19; refine (rest_any (b := b) (g := m) ?_).mono ?_; (first | exact hR3.drewN _ | exact hR3); rintro e w5 ⟨rfl, k5, rfl⟩))

      go_ret
      exact ⟨rfl, hb1.trans (((Below.refl _ _).alloc hb1.size _).trans ((hk3.below (by have := hb1.size; simp; omega) (fun k hk => by have := hb1.size; omega)).trans (drewN_below _ _ _)))⟩
    · have hd : decide (8 * b.size - m < 8 ∧ num b m (8 * b.size - m) = 0) = true := decide_eq_true ⟨by omega, by rw [show 8 * b.size - m = 0 by omega]; rfl⟩
      go_enter Try.func6, Try.ntmps6
      go_wp2_with (first
        | (go_at_call 9; refine (alive_any _).mono ?_; rintro e w1 ⟨rfl, hb1⟩; have hR := RdAt.new b (by omega) w1)
        | (go_at_call 10; refine (newReader_any _ _).mono ?_; rintro e w2 ⟨rfl, rfl⟩)
        | (go_at_call 14; refine (skip_any hR m (by omega)).mono ?_; rintro e w3 ⟨rfl, hR3, hk3⟩; rw [Nat.zero_add] at hR3)
        | (go_at_call 18; refine (left_any (b := b) (g := m) ?_).mono ?_; (first | exact hR3.drewN _ | exact hR3); rintro e w4 ⟨rfl, k4, rfl⟩)
        | (go_at_call 19; refine (rest_any (b := b) (g := m) ?_).mono ?_; (first | exact hR3.drewN _ | exact hR3); rintro e w5 ⟨rfl, k5, rfl⟩))

      go_ret
      exact ⟨rfl, hb1.trans (((Below.refl _ _).alloc hb1.size _).trans ((hk3.below (by have := hb1.size; simp; omega) (fun k hk => by have := hb1.size; omega)).trans (drewN_below _ _ _)))⟩
    · have hd := rest_bits b m h4 h5
      go_enter Try.func6, Try.ntmps6
      go_wp2_with (first
        | (go_at_call 9; refine (alive_any _).mono ?_; rintro e w1 ⟨rfl, hb1⟩; have hR := RdAt.new b (by omega) w1)
        | (go_at_call 10; refine (newReader_any _ _).mono ?_; rintro e w2 ⟨rfl, rfl⟩)
        | (go_at_call 14; refine (skip_any hR m (by omega)).mono ?_; rintro e w3 ⟨rfl, hR3, hk3⟩; rw [Nat.zero_add] at hR3; have hbl : Below w.heap.size w w3 := hb1.trans (((Below.refl _ _).alloc hb1.size _).trans (hk3.below (by have := hb1.size; simp; omega) (fun k hk => by have := hb1.size; omega))))
        | (go_at_call 18; refine (left_any (b := b) (g := m) ?_).mono ?_; assumption; rintro e w4 ⟨rfl, hs4⟩; change Same _ w4 at hs4; have hbl := Below.trans (B := w.heap.size) (a := w) (by assumption) (hs4.below _); have hR4 := RdAt.same (b := b) (g := m) (p := w1.heap.size) (by assumption) hs4))
      have i0 : (1 : Int) ≤ (b.size : Int) := by omega
      have i1 : 0 < b.size := by omega
      have i4 : 1 ≤ b.size := by omega
      have hix := last_byte b i4
      have i2 : ((b.size : Int) - 1).toNat = b.size - 1 := by omega
      have i3 : b.size - 1 < b.size := by omega
      go_quiet ((go_at_call 18; exact Calls.quiet_of (left_any (hR4.drewN _))))
      go_wp2_with (first
        | (go_at_call 19; refine (rest_any (b := b) (g := m) ?_).mono ?_; (first | exact hR4.drewN _ | exact hR4); rintro e w5 ⟨rfl, k5, rfl⟩))
      go_ret
      refine ⟨?_, hbl.trans (drewN_below _ _ _)⟩
      rw [← rest_eq (byteN b (b.size - 1)) (8 * b.size - m) (byteN_lt _ _) h5]
      rfl
  · go_enter Try.func6, Try.ntmps6
    go_wp2_with (go_at_call 9; refine (alive_any _).mono ?_; rintro e w1 ⟨rfl, hb1⟩)
    all_goals go_ret
    all_goals exact ⟨rfl, hb1⟩

set_option linter.unusedVariables false
theorem bitsRest_own : ownKnob Try.prog.godebug = none := by kernel_rfl

set_option maxRecDepth 100000 in
theorem bitsRest_lifted (os : Os) (started : os.Started) (H : Type) (enc : TypeId × Value → H) :
    ReturnsInHanded {} Try.checked os 6 .any (Rows.bitsRestSpec.pre6 enc Try.prog Try.f6 Rows.bitsRestRow.domain false) (Rows.bitsRestSpec.post enc Try.prog Try.f6 false true false false) := by
  refine returnsInHanded_of_change (C := Try.checked) bitsRest_own started (by kernel_rfl) Try.func6
    (ChangeSpec.witness6 (enc := enc) (C := Try.checked) false ⟨#[], #[.string ByteArray.empty, .int .i64 0], []⟩ 8 (by kernel_rfl) (by kernel_rfl) (by kernel_rfl) (by kernel_rfl)) ?_
  intro W base args ds gs before hval0 hW hcnd _
  have hval : ∀ (j : Nat) t v, Try.f6.params[j]? = some t → args[j]? = some v → Value.okWide Try.prog W .any base t v := hval0
  have hW' := hW
  obtain ⟨p, q, hA0, hV, rfl, hfz, hnd⟩ := hW
  have hA : DataW.TrodAll enc Try.prog W 0 (fun _ => true) true Try.f6.params.toList args.toList ds p := hA0
  rw [Try.params6] at hA hval
  obtain ⟨v0, vs0, d0, ds0, p0, q0, hargs, rfl, rfl, h0, r0⟩ := trodAll_cons hA
  obtain ⟨v1, vs1, d1, ds1, p1, q1, rfl, rfl, rfl, h1, r1⟩ := trodAll_cons r0
  obtain ⟨rfl, rfl, rfl⟩ := trodAll_nil r1
  obtain rfl : args = #[v0, v1] := by cases args; simp_all
  obtain ⟨rfl, rfl⟩ := trodVars_none hV
  obtain ⟨a0, rfl, rfl, rfl, w0⟩ := open_string Try.underlying9 (hval 0 9 v0 rfl rfl) h0
  obtain ⟨a1, rfl, rfl, rfl, w1⟩ := open_int Try.underlying3 (hval 1 3 v1 rfl rfl) h1
  clear hA0 hval0
  refine (rest_walk a0 a1 W).mono fun e W' ⟨he, bel⟩ => ?_
  subst he
  exact ⟨_, rfl, _, _, _, [], _, [], hW', trodAll_mk1 (shut_bool Try.underlying4 _), (trodAll_cons_mk (shut_string Try.underlying9 w0) (trodAll_cons_mk (shut_int Try.underlying3 w1) trodAll_mk0)), rfl, bel.frame _, fun h => by cases h⟩

/-- THE STATEMENT. -/
theorem bitsRest_holds : Rows.BitsRestSaid :=
  OpenClaim.holds_of_wide 6 Try.f6 rfl rfl rfl rfl rfl rfl rfl ⟨rfl, rfl, rfl, rfl, rfl⟩ rfl rfl rfl rfl rfl (by kernel_rfl) Try.func6 (by kernel_rfl)
    (of_decide_eq_true (by kernel_rfl)) (by unfold Func.isWrapper; first | (rw [if_pos (by decide +kernel)]; kernel_rfl) | (rw [if_neg (by decide +kernel)]; exact ⟨rfl, rfl⟩))
    (fun os started H enc _ => bitsRest_lifted os started H enc)
#print axioms bitsRest_holds
end Go.Proofs.Ytlnhfdcmnlinkaa
