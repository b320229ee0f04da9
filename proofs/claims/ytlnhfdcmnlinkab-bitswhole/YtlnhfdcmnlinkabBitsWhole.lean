/-
  The Go function lexiphanelaw2.BitsWhole returns true for every text b and every integer n of 64 bits: bits that fill whole bytes are those bytes, whichever numbers they were put by.
  No condition: whatever the input, in whatever memory; the arguments read as before.
-/
import Derived.Test.YtlnhfdcmnlinkabBitAlive
import Derived.ShutString
namespace Go.Proofs.Ytlnhfdcmnlinkab
open Go.ChangeShapes Go.WideShapes Go.ChangeAt Go.RowKit
open Go.ChangeMaps (open_string shut_string)

theorem num_put (b : ByteArray) (k n : Nat) : num b 0 k * 2 ^ n + num b k n = num b 0 (k + n) := by
  rw [num_add b 0 k n, Nat.zero_add]

set_option maxHeartbeats 2000000 in
theorem whole_walk (b : ByteArray) (n : Int) (w : World) : Calls Try.prog 3 #[.string b, .int .i64 n] w fun e w' => e = .returned (.bool true) ∧ Below w.heap.size w w' := by
  by_cases h1 : b.size ≤ 60 ∧ 1 ≤ n ∧ n ≤ 32
  · obtain ⟨h1, h2, h3⟩ := h1
    obtain ⟨n, rfl⟩ := Int.eq_ofNat_of_zero_le (show 0 ≤ n by omega)
    have hn : n ≤ 32 := by omega
    have hn1 : 1 ≤ n := by omega
    go_enter Try.func3, Try.ntmps3
    go_wp2_with (first
      | (go_at_call 4; refine (alive_any _).mono ?_; rintro e w1 ⟨rfl, hb1⟩; have hs1 := hb1.size)
      | (go_at_call 5; refine (newReader_any _ _).mono ?_; rintro e w2 ⟨rfl, rfl⟩))
    go_loopw [] (fun wr => ∃ (k : Nat) (v : Value), k ≤ 8 * b.size ∧ RdAt wr w1.heap.size b k ∧ WrAt w.heap.size wr (w1.heap.size + 1) v (num b 0 k) k ∧ (∀ g, v.ownBlock = some g → g ≠ w1.heap.size) ∧ Below w.heap.size w wr)
      (fun wr => 8 * b.size - (intOf ((wr.cell? ⟨w1.heap.size, 1, none⟩).getD (.int .i64 0))).toNat)
    case atStart =>
      refine ⟨0, .slice none 0 0, by omega, (RdAt.new b (by omega) w1).alloc _, ?_, by simp [Value.ownBlock], hb1.trans (((Below.refl _ _).alloc hs1 _).alloc (by simp; omega) _)⟩
      have := WrAt.new (B := w.heap.size) (w1.alloc (.cells #[.string b, .int .i64 0] 36)) (by simp; omega)
      simpa [num] using this
    case round =>
      obtain ⟨k, v, hk, hR, hW, hne, hbl⟩ := hrel
      by_cases hlt : k < 8 * b.size
      · by_cases hn8 : n ≤ 8 * b.size - k
        · have hcm := hR.gone
          go_wp2_with (first
            | (go_at_call 8; refine (put_any hW5 (num b k n) n (by omega) (num_lt _ _ _) (by omega)).mono ?_; rintro e w6 ⟨rfl, v', hW6, hk6, ho6⟩; rw [num_put] at hW6)
            | (go_at_call 7; refine (get_any hR4 n (by omega) (by omega)).mono ?_; rintro e w5 ⟨rfl, hR5, hk5⟩; have hW5 := hW4.kept hk5 (by simp) (fun g hg => hne g hg))
            | (go_at_call 6; refine (left_any hR3).mono ?_; rintro e w4 ⟨rfl, hs4⟩; change Same w3 w4 at hs4; have hR4 := hR3.same hs4; have hW4 := hW3.same hs4)
            | (go_at_call 6; refine (left_any hR).mono ?_; rintro e w3 ⟨rfl, hs3⟩; change Same wr w3 at hs3; have hR3 := hR.same hs3; have hW3 := hW.same hs3))

          have hR6 := hR5.kept hk6 (not_foot (by omega) hne)
          have hc6 := hR6.gone
          have hz3 := hs3.size
          have hz4 := hs4.size
          have hz5 := hk5.size
          have hz := hbl.size
          have hl5 := hR5.lt
          go_roundw
          case rel => exact ⟨k + n, v', by omega, hR6, hW6, own_far ho6 hne hl5, hbl.trans ((hs3.below _).trans ((hs4.below _).trans ((hk5.below (by omega) (fun j hj => by omega)).trans (hk6.below (by omega) hW5.foot))))⟩
          case measure => rw [hc6, hcm]; simp [intOf]; omega
        · obtain ⟨t, ht⟩ : ∃ t, k + t = 8 * b.size := ⟨8 * b.size - k, by omega⟩
          have hl : 8 * (b.size : Int) - (k : Int) = (t : Int) := by omega
          have htn : t < n := by omega
          have hcm := hR.gone
          go_wp2_with (first
            | (go_at_call 8; refine (put_any hW5 (num b k t) t (by omega) (num_lt _ _ _) (by omega)).mono ?_; rintro e w6 ⟨rfl, v', hW6, hk6, ho6⟩; rw [num_put] at hW6)
            | (go_at_call 7; refine (get_any hR4 t (by omega) (by omega)).mono ?_; rintro e w5 ⟨rfl, hR5, hk5⟩; have hW5 := hW4.kept hk5 (by simp) (fun g hg => hne g hg))
            | (go_at_call 6; refine (left_any hR3).mono ?_; rintro e w4 ⟨rfl, hs4⟩; change Same w3 w4 at hs4; have hR4 := hR3.same hs4; have hW4 := hW3.same hs4)
            | (go_at_call 6; refine (left_any hR).mono ?_; rintro e w3 ⟨rfl, hs3⟩; change Same wr w3 at hs3; have hR3 := hR.same hs3; have hW3 := hW.same hs3))

          have hR6 := hR5.kept hk6 (not_foot (by omega) hne)
          have hc6 := hR6.gone
          have hz3 := hs3.size
          have hz4 := hs4.size
          have hz5 := hk5.size
          have hz := hbl.size
          have hl5 := hR5.lt
          go_roundw
          case rel => exact ⟨k + t, v', by omega, hR6, hW6, own_far ho6 hne hl5, hbl.trans ((hs3.below _).trans ((hs4.below _).trans ((hk5.below (by omega) (fun j hj => by omega)).trans (hk6.below (by omega) hW5.foot))))⟩
          case measure => rw [hc6, hcm]; simp [intOf]; omega
      · have hle : 8 * b.size ≤ k := by omega
        have hkk : ((k : Int) == 8 * (b.size : Int)) = true := beq_iff_eq.2 (by omega)
        have hpk : packB (num b 0 k) k = b := by rw [show k = 8 * b.size by omega]; exact packB_num b
        go_wp2_with (first
          | (go_at_call 10; refine (len_any hW4).mono ?_; rintro e w5 ⟨rfl, hs5⟩; change Same w4 w5 at hs5)
          | (go_at_call 9; refine (bytes_any hW3).mono ?_; rintro e w4 ⟨rfl, hb4⟩; have hW4 := hW3.below hb4 (Nat.le_refl _))
          | (go_at_call 6; refine (left_any hR).mono ?_; rintro e w3 ⟨rfl, hs3⟩; change Same wr w3 at hs3; have hW3 := hW.same hs3))
        go_ret
        exact ⟨rfl, hbl.trans ((hs3.below _).trans ((hb4.mono (by have := hs3.size; have := hbl.size; omega)).trans (hs5.below _)))⟩
  · go_enter Try.func3, Try.ntmps3
    go_wp2_with (go_at_call 4; refine (alive_any _).mono ?_; rintro e w1 ⟨rfl, hb1⟩)
    all_goals go_ret
    all_goals exact ⟨rfl, hb1⟩

set_option linter.unusedVariables false
theorem bitsWhole_own : ownKnob Try.prog.godebug = none := by kernel_rfl

set_option maxRecDepth 100000 in
theorem bitsWhole_lifted (os : Os) (started : os.Started) (H : Type) (enc : TypeId × Value → H) :
    ReturnsInHanded {} Try.checked os 3 .any (Rows.bitsWholeSpec.pre6 enc Try.prog Try.f3 Rows.bitsWholeRow.domain false) (Rows.bitsWholeSpec.post enc Try.prog Try.f3 false true false false) := by
  refine returnsInHanded_of_change (C := Try.checked) bitsWhole_own started (by kernel_rfl) Try.func3
    (ChangeSpec.witness6 (enc := enc) (C := Try.checked) false ⟨#[], #[.string ByteArray.empty, .int .i64 0], []⟩ 8 (by kernel_rfl) (by kernel_rfl) (by kernel_rfl) (by kernel_rfl)) ?_
  intro W base args ds gs before hval0 hW hcnd _
  have hval : ∀ (j : Nat) t v, Try.f3.params[j]? = some t → args[j]? = some v → Value.okWide Try.prog W .any base t v := hval0
  have hW' := hW
  obtain ⟨p, q, hA0, hV, rfl, hfz, hnd⟩ := hW
  have hA : DataW.TrodAll enc Try.prog W 0 (fun _ => true) true Try.f3.params.toList args.toList ds p := hA0
  rw [Try.params3] at hA hval
  obtain ⟨v0, vs0, d0, ds0, p0, q0, hargs, rfl, rfl, h0, r0⟩ := trodAll_cons hA
  obtain ⟨v1, vs1, d1, ds1, p1, q1, rfl, rfl, rfl, h1, r1⟩ := trodAll_cons r0
  obtain ⟨rfl, rfl, rfl⟩ := trodAll_nil r1
  obtain rfl : args = #[v0, v1] := by cases args; simp_all
  obtain ⟨rfl, rfl⟩ := trodVars_none hV
  obtain ⟨a0, rfl, rfl, rfl, w0⟩ := open_string Try.underlying9 (hval 0 9 v0 rfl rfl) h0
  obtain ⟨a1, rfl, rfl, rfl, w1⟩ := open_int Try.underlying3 (hval 1 3 v1 rfl rfl) h1
  clear hA0 hval0
  refine (whole_walk a0 a1 W).mono fun e W' ⟨he, bel⟩ => ?_
  subst he
  exact ⟨_, rfl, _, _, _, [], _, [], hW', trodAll_mk1 (shut_bool Try.underlying4 _), (trodAll_cons_mk (shut_string Try.underlying9 w0) (trodAll_cons_mk (shut_int Try.underlying3 w1) trodAll_mk0)), rfl, bel.frame _, fun h => by cases h⟩

/-- THE STATEMENT. -/
theorem bitsWhole_holds : Rows.BitsWholeSaid :=
  OpenClaim.holds_of_wide 3 Try.f3 rfl rfl rfl rfl rfl rfl rfl ⟨rfl, rfl, rfl, rfl, rfl⟩ rfl rfl rfl rfl rfl (by kernel_rfl) Try.func3 (by kernel_rfl)
    (of_decide_eq_true (by kernel_rfl)) (by unfold Func.isWrapper; first | (rw [if_pos (by decide +kernel)]; kernel_rfl) | (rw [if_neg (by decide +kernel)]; exact ⟨rfl, rfl⟩))
    (fun os started H enc _ => bitsWhole_lifted os started H enc)
#print axioms bitsWhole_holds
end Go.Proofs.Ytlnhfdcmnlinkab
