/-
  The Go function lexiphanelaw2.BitsRefuse returns true for every two integers of 64 bits v and n: what does not fit is not written.
  No condition: whatever the input, in whatever memory; the arguments read as before.
-/
import Derived.Test.YtlnhfdcmnlinkaaBitAlive
namespace Go.Proofs.Ytlnhfdcmnlinkaa
open Go.ChangeShapes Go.WideShapes Go.ChangeAt Go.RowKit

theorem pack_none : (packB 0 0).toList.isEmpty = true := by decide +kernel

theorem one_shl (m : Nat) (h : m < 32) : wrap64 ((2 : Int) ^ m) = (2 : Int) ^ m := by
  have h1 : 2 ^ m < 2 ^ 32 := Nat.pow_lt_pow_of_lt (by decide) h
  have h0 : 0 < 2 ^ m := Nat.two_pow_pos m
  have e : ((2 : Int) ^ m) = ((2 ^ m : Nat) : Int) := by simp
  rw [e]
  exact IntWalk.wrap64_in _ ⟨by omega, by omega⟩

theorem and31 (m : Nat) (h : m < 32) : bits .and .i64 (m : Int) 31 = (m : Int) := by
  have := and_i64 5 m (by omega) (by decide)
  rw [show m % 2 ^ 5 = m by omega] at this
  exact this

theorem put_32 {B : Nat} {w : World} {p : Nat} {v : Value} (h : WrAt B w p v 0 0) (x : Nat) (hx : x < 4294967296) :
    Calls Try.prog 11 #[.pointer (some ⟨p, 0, none⟩), .int .i64 x, .int .i64 32] w fun e w' => e = .returned (.bool true) ∧ ∃ v', WrAt B w' p v' x 32 ∧ Kept (Foot p v) w w' := by
  have h1 := put_any h x 32 (by decide) (by omega) (by decide)
  refine Calls.mono h1 ?_
  rintro e w4 ⟨rfl, v', hW4, hk4, ho4⟩
  rw [Nat.zero_mul, Nat.zero_add, Nat.zero_add] at hW4
  exact ⟨rfl, v', hW4, hk4⟩

theorem put_32_no {w : World} {p : Nat} (x : Nat) (hx : ¬ x < 4294967296) :
    Calls Try.prog 11 #[.pointer (some ⟨p, 0, none⟩), .int .i64 x, .int .i64 32] w fun e w' => e = .returned (.bool false) ∧ w' = w :=
  put_no (x : Int) 32 (.inr (.inr (.inr (by show (4294967296 : Int) ≤ (x : Int); omega))))

set_option maxRecDepth 20000 in
set_option maxHeartbeats 1000000 in
theorem refuse_walk (v n : Int) (w : World) : Calls Try.prog 7 #[.int .i64 v, .int .i64 n] w fun e w' => e = .returned (.bool true) ∧ Below w.heap.size w w' := by
  have hpk := pack_none
  have hco : ((0 : Int) == n) = (n == 0) := by rw [Bool.eq_iff_iff]; simp; exact eq_comm
  by_cases h1 : n < 0
  · go_enter Try.func7, Try.ntmps7
    go_wp2_with (first
      | (go_at_call 9; refine (alive_any _).mono ?_; rintro e w1 ⟨rfl, hb1⟩; have hW := WrAt.new (B := w.heap.size) w1 hb1.size)
      | (go_at_call 11; refine (put_no v n (.inl h1)).mono ?_; rintro e w4 ⟨rfl, rfl⟩)
      | (go_at_call 15; refine (len_any hW).mono ?_; rintro e w6 ⟨rfl, k6, rfl⟩)
      | (go_at_call 16; refine (bytes_any (hW.drewN k6)).mono ?_; rintro e w5 ⟨rfl, hb5⟩))
    go_ret
    exact ⟨rfl, hb1.trans (((Below.refl _ _).alloc hb1.size _).trans ((drewN_below _ k6 _).trans (hb5.mono (by have := (hW.drewN k6).lt; have := hb1.size; omega))))⟩
    
  by_cases h2 : 32 < n
  · go_enter Try.func7, Try.ntmps7
    go_wp2_with (first
      | (go_at_call 9; refine (alive_any _).mono ?_; rintro e w1 ⟨rfl, hb1⟩; have hW := WrAt.new (B := w.heap.size) w1 hb1.size)
      | (go_at_call 11; refine (put_no v n (.inr (.inl h2))).mono ?_; rintro e w4 ⟨rfl, rfl⟩)
      | (go_at_call 15; refine (len_any hW).mono ?_; rintro e w6 ⟨rfl, k6, rfl⟩)
      | (go_at_call 16; refine (bytes_any (hW.drewN k6)).mono ?_; rintro e w5 ⟨rfl, hb5⟩))
    go_ret
    exact ⟨rfl, hb1.trans (((Below.refl _ _).alloc hb1.size _).trans ((drewN_below _ k6 _).trans (hb5.mono (by have := (hW.drewN k6).lt; have := hb1.size; omega))))⟩
    
  by_cases h3 : v < 0
  · go_enter Try.func7, Try.ntmps7
    go_wp2_with (first
      | (go_at_call 9; refine (alive_any _).mono ?_; rintro e w1 ⟨rfl, hb1⟩; have hW := WrAt.new (B := w.heap.size) w1 hb1.size)
      | (go_at_call 11; refine (put_no v n (.inr (.inr (.inl h3)))).mono ?_; rintro e w4 ⟨rfl, rfl⟩)
      | (go_at_call 15; refine (len_any hW).mono ?_; rintro e w6 ⟨rfl, k6, rfl⟩)
      | (go_at_call 16; refine (bytes_any (hW.drewN k6)).mono ?_; rintro e w5 ⟨rfl, hb5⟩))
    go_ret
    exact ⟨rfl, hb1.trans (((Below.refl _ _).alloc hb1.size _).trans ((drewN_below _ k6 _).trans (hb5.mono (by have := (hW.drewN k6).lt; have := hb1.size; omega))))⟩
    
  obtain ⟨m, rfl⟩ := Int.eq_ofNat_of_zero_le (Int.not_lt.1 h1)
  obtain ⟨x, rfl⟩ := Int.eq_ofNat_of_zero_le (Int.not_lt.1 h3)
  by_cases h4 : m < 32
  · have ha := and31 m h4
    have hs := one_shl m h4
    by_cases hx : x < 2 ^ m
    · have hd : decide ((x : Int) < (2 : Int) ^ m) = true := decide_eq_true (by exact_mod_cast hx)
      go_enter Try.func7, Try.ntmps7
      go_wp2_with (first
        | (go_at_call 9; refine (alive_any _).mono ?_; rintro e w1 ⟨rfl, hb1⟩; have hW := WrAt.new (B := w.heap.size) w1 hb1.size)
        | (go_at_call 11; refine (put_any hW x m (by omega) hx (by omega)).mono ?_; rintro e w4 ⟨rfl, v', hW4, hk4, ho4⟩; rw [Nat.zero_add] at hW4)
        | (go_at_call 15; refine (len_any hW4).mono ?_; rintro e w6 ⟨rfl, k6, rfl⟩))
      go_ret
      exact ⟨rfl, hb1.trans (((Below.refl _ _).alloc hb1.size _).trans ((hk4.below (by have := hb1.size; simp; omega) hW.foot).trans (drewN_below _ k6 _)))⟩
      
    · have hd : decide ((x : Int) < (2 : Int) ^ m) = false := decide_eq_false (by intro h; exact hx (by exact_mod_cast h))
      have hno : (2 : Int) ^ (m : Int).toNat ≤ (x : Int) := by simp only [Int.toNat_natCast]; exact_mod_cast Nat.not_lt.1 hx
      go_enter Try.func7, Try.ntmps7
      go_wp2_with (first
        | (go_at_call 9; refine (alive_any _).mono ?_; rintro e w1 ⟨rfl, hb1⟩; have hW := WrAt.new (B := w.heap.size) w1 hb1.size)
        | (go_at_call 11; refine (put_no (x : Int) (m : Int) (.inr (.inr (.inr hno)))).mono ?_; rintro e w4 ⟨rfl, rfl⟩)
        | (go_at_call 15; refine (len_any hW).mono ?_; rintro e w6 ⟨rfl, k6, rfl⟩)
        | (go_at_call 16; refine (bytes_any (hW.drewN k6)).mono ?_; rintro e w5 ⟨rfl, hb5⟩))
      go_ret
      exact ⟨rfl, hb1.trans (((Below.refl _ _).alloc hb1.size _).trans ((drewN_below _ k6 _).trans (hb5.mono (by have := (hW.drewN k6).lt; have := hb1.size; omega))))⟩
      
  · obtain rfl : m = 32 := by omega
    by_cases hx : x < 4294967296
    · have hd : decide ((x : Int) < 4294967296) = true := decide_eq_true (by omega)
      go_enter Try.func7, Try.ntmps7
      go_wp2_with (first
        | (go_at_call 9; refine (alive_any _).mono ?_; rintro e w1 ⟨rfl, hb1⟩; have hW := WrAt.new (B := w.heap.size) w1 hb1.size)
        | (go_at_call 11; refine (put_32 hW x hx).mono ?_; rintro e w4 ⟨rfl, v', hW4, hk4⟩)
        | (go_at_call 15; refine (len_any hW4).mono ?_; rintro e w6 ⟨rfl, k6, rfl⟩))
      go_ret
      exact ⟨rfl, hb1.trans (((Below.refl _ _).alloc hb1.size _).trans ((hk4.below (by have := hb1.size; simp; omega) hW.foot).trans (drewN_below _ k6 _)))⟩
    · have hd : decide ((x : Int) < 4294967296) = false := decide_eq_false (by omega)
      go_enter Try.func7, Try.ntmps7
      go_wp2_with (first
        | (go_at_call 9; refine (alive_any _).mono ?_; rintro e w1 ⟨rfl, hb1⟩; have hW := WrAt.new (B := w.heap.size) w1 hb1.size)
        | (go_at_call 11; refine (put_32_no x hx).mono ?_; rintro e w4 ⟨rfl, rfl⟩)
        | (go_at_call 15; refine (len_any hW).mono ?_; rintro e w6 ⟨rfl, k6, rfl⟩)
        | (go_at_call 16; refine (bytes_any (hW.drewN k6)).mono ?_; rintro e w5 ⟨rfl, hb5⟩))
      go_ret
      exact ⟨rfl, hb1.trans (((Below.refl _ _).alloc hb1.size _).trans ((drewN_below _ k6 _).trans (hb5.mono (by have := (hW.drewN k6).lt; have := hb1.size; omega))))⟩

set_option linter.unusedVariables false
theorem bitsRefuse_own : ownKnob Try.prog.godebug = none := by kernel_rfl

set_option maxRecDepth 100000 in
theorem bitsRefuse_lifted (os : Os) (started : os.Started) (H : Type) (enc : TypeId × Value → H) :
    ReturnsInHanded {} Try.checked os 7 .any (Rows.bitsRefuseSpec.pre6 enc Try.prog Try.f7 Rows.bitsRefuseRow.domain false) (Rows.bitsRefuseSpec.post enc Try.prog Try.f7 false true false false) := by
  refine returnsInHanded_of_change (C := Try.checked) bitsRefuse_own started (by kernel_rfl) Try.func7
    (ChangeSpec.witness6 (enc := enc) (C := Try.checked) false ⟨#[], #[.int .i64 0, .int .i64 0], []⟩ 8 (by kernel_rfl) (by kernel_rfl) (by kernel_rfl) (by kernel_rfl)) ?_
  intro W base args ds gs before hval0 hW hcnd _
  have hval : ∀ (j : Nat) t v, Try.f7.params[j]? = some t → args[j]? = some v → Value.okWide Try.prog W .any base t v := hval0
  have hW' := hW
  obtain ⟨p, q, hA0, hV, rfl, hfz, hnd⟩ := hW
  have hA : DataW.TrodAll enc Try.prog W 0 (fun _ => true) true Try.f7.params.toList args.toList ds p := hA0
  rw [Try.params7] at hA hval
  obtain ⟨v0, vs0, d0, ds0, p0, q0, hargs, rfl, rfl, h0, r0⟩ := trodAll_cons hA
  obtain ⟨v1, vs1, d1, ds1, p1, q1, rfl, rfl, rfl, h1, r1⟩ := trodAll_cons r0
  obtain ⟨rfl, rfl, rfl⟩ := trodAll_nil r1
  obtain rfl : args = #[v0, v1] := by cases args; simp_all
  obtain ⟨rfl, rfl⟩ := trodVars_none hV
  obtain ⟨a0, rfl, rfl, rfl, w0⟩ := open_int Try.underlying3 (hval 0 3 v0 rfl rfl) h0
  obtain ⟨a1, rfl, rfl, rfl, w1⟩ := open_int Try.underlying3 (hval 1 3 v1 rfl rfl) h1
  clear hA0 hval0
  refine (refuse_walk a0 a1 W).mono fun e W' ⟨he, bel⟩ => ?_
  subst he
  exact ⟨_, rfl, _, _, _, [], _, [], hW', trodAll_mk1 (shut_bool Try.underlying4 _), (trodAll_cons_mk (shut_int Try.underlying3 w0) (trodAll_cons_mk (shut_int Try.underlying3 w1) trodAll_mk0)), rfl, bel.frame _, fun h => by cases h⟩

/-- THE STATEMENT. -/
theorem bitsRefuse_holds : Rows.BitsRefuseSaid :=
  OpenClaim.holds_of_wide 7 Try.f7 rfl rfl rfl rfl rfl rfl rfl ⟨rfl, rfl, rfl, rfl, rfl⟩ rfl rfl rfl rfl rfl (by kernel_rfl) Try.func7 (by kernel_rfl)
    (of_decide_eq_true (by kernel_rfl)) (by unfold Func.isWrapper; first | (rw [if_pos (by decide +kernel)]; kernel_rfl) | (rw [if_neg (by decide +kernel)]; exact ⟨rfl, rfl⟩))
    (fun os started H enc _ => bitsRefuse_lifted os started H enc)
#print axioms bitsRefuse_holds
end Go.Proofs.Ytlnhfdcmnlinkaa
