/-
  The Go function lexiphanelaw2.BitsPeeks returns true for every text b and every two integers of 64 bits n and m: looked at twice, bits are the same; what is passed by is not read.
  No condition: whatever the input, in whatever memory; the arguments read as before.
-/
import Derived.Test.YtlnhfdcmnlinkaaBitAlive
import Derived.ShutString
namespace Go.Proofs.Ytlnhfdcmnlinkaa
open Go.ChangeShapes Go.WideShapes Go.ChangeAt Go.RowKit
open Go.ChangeMaps (open_string shut_string)

set_option maxHeartbeats 2000000 in
theorem peeks_walk (b : ByteArray) (n m : Int) (w : World) : Calls Try.prog 8 #[.string b, .int .i64 n, .int .i64 m] w fun e w' => e = .returned (.bool true) ∧ Below w.heap.size w w' := by
  by_cases h1 : b.size ≤ 60 ∧ 0 ≤ n ∧ n ≤ 32 ∧ 0 ≤ m ∧ m ≤ 8 * b.size
  · obtain ⟨h1, h2, h3, h4, h5⟩ := h1
    obtain ⟨n, rfl⟩ := Int.eq_ofNat_of_zero_le h2
    obtain ⟨m, rfl⟩ := Int.eq_ofNat_of_zero_le h4
    have hn : n ≤ 32 := by omega
    go_enter Try.func8, Try.ntmps8
    go_wp2_with (first
      | (go_at_call 9; refine (alive_any _).mono ?_; rintro e w1 ⟨rfl, hb1⟩; have hs1 := hb1.size; have hR1 := (RdAt.new b (by omega) w1).alloc (.cells #[.string b, .int .i64 0] 48); have hR2 := RdAt.new b (by omega) (w1.alloc (.cells #[.string b, .int .i64 0] 48)); rw [show (w1.alloc (.cells #[.string b, .int .i64 0] 48)).heap.size = w1.heap.size + 1 by simp] at hR2)
      | (go_at_call 10; refine (newReader_any _ _).mono ?_; rintro e w2 ⟨rfl, rfl⟩)
      | (go_at_call 14; refine (skip_any hR1 m (by omega)).mono ?_; rintro e w3 ⟨rfl, hR3, hk3⟩; rw [Nat.zero_add] at hR3; have hR4 := hR2.kept hk3 (by simp); have hbl3 : Below w.heap.size w w3 := hb1.trans ((((Below.refl _ _).alloc hs1 _).alloc (by simp; omega) _).trans (hk3.below (by simp; omega) (fun j hj => by omega)))))
    go_loopw [9] (fun i wr => ∃ k : Nat, k ≤ m ∧ i = .int .i64 (k : Int) ∧ RdAt wr w1.heap.size b m ∧ RdAt wr (w1.heap.size + 1) b k ∧ Below w.heap.size w wr) (fun i _ => m - (intOf i).toNat)
    case atStart => exact ⟨0, by omega, rfl, hR3, hR4, hbl3⟩
    case round =>
      obtain ⟨k, hk, rfl, hRp, hRq, hbl⟩ := hrel
      by_cases hlt : k < m
      · go_wp2_with (go_at_call 12; refine (get_any hRq 1 (by decide) (by omega)).mono ?_; rintro e w4 ⟨rfl, hRq4, hk4⟩; have hRp4 := hRp.kept hk4 (by simp))
        go_roundw
        case rel => exact ⟨k + 1, by omega, by go_num, hRp4, hRq4, hbl.trans (hk4.below (by have := hbl.size; omega) (fun j hj => by omega))⟩
        case measure => simp [intOf]; omega
      · have hle : m ≤ k := by omega
        obtain rfl : k = m := by omega
        by_cases hmn : k + n ≤ 8 * b.size
        · go_wp2_with (first
            | (go_at_call 18; refine (left_any hRq6).mono ?_; rintro e w7 ⟨rfl, hs7⟩; change Same w6 w7 at hs7)
            | (go_at_call 18; refine (left_any hRp5).mono ?_; rintro e w6 ⟨rfl, hs6⟩; change Same w5 w6 at hs6; have hRq6 := hRq5.same hs6)
            | (go_at_call 12; refine (get_any hRq4 n hn hmn).mono ?_; rintro e w5 ⟨rfl, hRq5, hk5⟩; have hRp5 := hRp4.kept hk5 (by simp))
            | (go_at_call 12; refine (get_any hRp3 n hn hmn).mono ?_; rintro e w4 ⟨rfl, hRp4, hk4⟩; have hRq4 := hRq3.kept hk4 (by simp); have hl4 := hRq4.lt)
            | (go_at_call 13; refine (peek_any hRp2 n hn).mono ?_; rintro e w3 ⟨rfl, hs3⟩; change Same w2 w3 at hs3; have hRp3 := hRp2.same hs3; have hRq3 := hRq2.same hs3)
            | (go_at_call 13; refine (peek_any hRp n hn).mono ?_; rintro e w2 ⟨rfl, hs2⟩; change Same wr w2 at hs2; have hRp2 := hRp.same hs2; have hRq2 := hRq.same hs2))
          go_ret
          have hz := hbl.size
          have hz2 := hs2.size
          have hz3 := hs3.size
          exact ⟨rfl, hbl.trans ((hs2.below _).trans ((hs3.below _).trans ((hk4.below (by omega) (fun j hj => by omega)).trans ((hk5.below (by omega) (fun j hj => by omega)).trans ((hs6.below _).trans (hs7.below _))))))⟩
        · go_wp2_with (first
            | (go_at_call 18; refine (left_any hRq6).mono ?_; rintro e w7 ⟨rfl, hs7⟩; change Same w6 w7 at hs7)
            | (go_at_call 18; refine (left_any hRp5).mono ?_; rintro e w6 ⟨rfl, hs6⟩; change Same w5 w6 at hs6; have hRq6 := hRq5.same hs6)
            | (go_at_call 12; refine (get_no hRq4 (n : Int) (by omega)).mono ?_; rintro e w5 ⟨rfl, hs5⟩; change Same w4 w5 at hs5; have hRp5 := hRp4.same hs5; have hRq5 := hRq4.same hs5)
            | (go_at_call 12; refine (get_no hRp3 (n : Int) (by omega)).mono ?_; rintro e w4 ⟨rfl, hs4⟩; change Same w3 w4 at hs4; have hRp4 := hRp3.same hs4; have hRq4 := hRq3.same hs4)
            | (go_at_call 13; refine (peek_any hRp2 n hn).mono ?_; rintro e w3 ⟨rfl, hs3⟩; change Same w2 w3 at hs3; have hRp3 := hRp2.same hs3; have hRq3 := hRq2.same hs3)
            | (go_at_call 13; refine (peek_any hRp n hn).mono ?_; rintro e w2 ⟨rfl, hs2⟩; change Same wr w2 at hs2; have hRp2 := hRp.same hs2; have hRq2 := hRq.same hs2))
          go_ret
          exact ⟨rfl, hbl.trans ((hs2.below _).trans ((hs3.below _).trans ((hs4.below _).trans ((hs5.below _).trans ((hs6.below _).trans (hs7.below _))))))⟩
  · go_enter Try.func8, Try.ntmps8
    go_wp2_with (go_at_call 9; refine (alive_any _).mono ?_; rintro e w1 ⟨rfl, hb1⟩)
    all_goals go_ret
    all_goals exact ⟨rfl, hb1⟩

set_option linter.unusedVariables false
theorem bitsPeeks_own : ownKnob Try.prog.godebug = none := by kernel_rfl

set_option maxRecDepth 100000 in
theorem bitsPeeks_lifted (os : Os) (started : os.Started) (H : Type) (enc : TypeId × Value → H) :
    ReturnsInHanded {} Try.checked os 8 .any (Rows.bitsPeeksSpec.pre6 enc Try.prog Try.f8 Rows.bitsPeeksRow.domain false) (Rows.bitsPeeksSpec.post enc Try.prog Try.f8 false true false false) := by
  refine returnsInHanded_of_change (C := Try.checked) bitsPeeks_own started (by kernel_rfl) Try.func8
    (ChangeSpec.witness6 (enc := enc) (C := Try.checked) false ⟨#[], #[.string ByteArray.empty, .int .i64 0, .int .i64 0], []⟩ 8 (by kernel_rfl) (by kernel_rfl) (by kernel_rfl) (by kernel_rfl)) ?_
  intro W base args ds gs before hval0 hW hcnd _
  have hval : ∀ (j : Nat) t v, Try.f8.params[j]? = some t → args[j]? = some v → Value.okWide Try.prog W .any base t v := hval0
  have hW' := hW
  obtain ⟨p, q, hA0, hV, rfl, hfz, hnd⟩ := hW
  have hA : DataW.TrodAll enc Try.prog W 0 (fun _ => true) true Try.f8.params.toList args.toList ds p := hA0
  rw [Try.params8] at hA hval
  obtain ⟨v0, vs0, d0, ds0, p0, q0, hargs, rfl, rfl, h0, r0⟩ := trodAll_cons hA
  obtain ⟨v1, vs1, d1, ds1, p1, q1, rfl, rfl, rfl, h1, r1⟩ := trodAll_cons r0
  obtain ⟨v2, vs2, d2, ds2, p2, q2, rfl, rfl, rfl, h2, r2⟩ := trodAll_cons r1
  obtain ⟨rfl, rfl, rfl⟩ := trodAll_nil r2
  obtain rfl : args = #[v0, v1, v2] := by cases args; simp_all
  obtain ⟨rfl, rfl⟩ := trodVars_none hV
  obtain ⟨a0, rfl, rfl, rfl, w0⟩ := open_string Try.underlying9 (hval 0 9 v0 rfl rfl) h0
  obtain ⟨a1, rfl, rfl, rfl, w1⟩ := open_int Try.underlying3 (hval 1 3 v1 rfl rfl) h1
  obtain ⟨a2, rfl, rfl, rfl, w2⟩ := open_int Try.underlying3 (hval 2 3 v2 rfl rfl) h2
  clear hA0 hval0
  refine (peeks_walk a0 a1 a2 W).mono fun e W' ⟨he, bel⟩ => ?_
  subst he
  exact ⟨_, rfl, _, _, _, [], _, [], hW', trodAll_mk1 (shut_bool Try.underlying4 _), (trodAll_cons_mk (shut_string Try.underlying9 w0) (trodAll_cons_mk (shut_int Try.underlying3 w1) (trodAll_cons_mk (shut_int Try.underlying3 w2) trodAll_mk0))), rfl, bel.frame _, fun h => by cases h⟩

/-- THE STATEMENT. -/
theorem bitsPeeks_holds : Rows.BitsPeeksSaid :=
  OpenClaim.holds_of_wide 8 Try.f8 rfl rfl rfl rfl rfl rfl rfl ⟨rfl, rfl, rfl, rfl, rfl⟩ rfl rfl rfl rfl rfl (by kernel_rfl) Try.func8 (by kernel_rfl)
    (of_decide_eq_true (by kernel_rfl)) (by unfold Func.isWrapper; first | (rw [if_pos (by decide +kernel)]; kernel_rfl) | (rw [if_neg (by decide +kernel)]; exact ⟨rfl, rfl⟩))
    (fun os started H enc _ => bitsPeeks_lifted os started H enc)
#print axioms bitsPeeks_holds
end Go.Proofs.Ytlnhfdcmnlinkaa
