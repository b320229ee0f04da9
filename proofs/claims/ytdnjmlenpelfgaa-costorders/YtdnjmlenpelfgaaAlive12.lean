/-
  What all statements of chapter 12 call: alive.
-/
import Derived.Test.YtdnjmlenpelfgaaCost
namespace Go.Proofs.Ytdnjmlenpelfgaa
open Go.ChangeShapes Go.WideShapes Go.ChangeAt Go.RowKit

theorem of_300 (w : World) : Calls Try.prog 12 #[.int .i64 300] w fun e w' => e = .returned (.complex .f64 4607182418800017408 4625196817309499392) ∧ w' = w := by
  have h := of_any 300 w
  have e1 : tk 300 = 1 := tk_in 300 (by decide)
  have e2 : bt 300 = 16 := by have := bt_in 300 (by decide); rw [vlen_ge 300 (by decide), vlen_lt _ (by decide)] at this; exact this
  rw [e1, e2, fN_one, fN_16] at h
  exact h

theorem sum_two {w : World} {v : Value} (hv : Reads w v (nats [97, 300])) : Calls Try.prog 11 #[v] w fun e w' => e = .returned (.complex .f64 4611686018427387904 4627448617123184640) ∧ w' = w := by
  have h := sum_any hv (by decide)
  have e1 : tks [97, 300] = 2 := by have h1 : tk 97 = 1 := tk_in 97 (by decide); have h2 : tk 300 = 1 := tk_in 300 (by decide); simp [tks, h1, h2]
  have e2 : bts [97, 300] = 24 := by
    have h1 : bt 97 = 8 * vlen 97 := bt_in 97 (by decide)
    have h2 : bt 300 = 8 * vlen 300 := bt_in 300 (by decide)
    rw [vlen_lt _ (by decide)] at h1
    rw [vlen_ge 300 (by decide), vlen_lt _ (by decide)] at h2
    simp [bts, h1, h2]
  rw [e1, e2, fN_two, fN_24] at h
  exact h

theorem less_two (w : World) : Calls Try.prog 15 #[.complex .f64 4607182418800017408 4625196817309499392, .complex .f64 4611686018427387904 4620693217682128896] w fun e w' => e = .returned (.bool true) ∧ w' = w := by
  have h := less_in 1 16 2 8 (by decide) (by decide) (by decide) (by decide) w
  rw [fN_one, fN_16, fN_two, fN_8] at h
  exact h

theorem tokens_two (w : World) : Calls Try.prog 13 #[.complex .f64 4611686018427387904 4627448617123184640] w fun e w' => e = .returned (.int .i64 2) ∧ w' = w := by
  have h := tokens_in 2 24 (by decide) w
  rw [fN_two, fN_24] at h
  exact h

theorem bits_two (w : World) : Calls Try.prog 14 #[.complex .f64 4611686018427387904 4627448617123184640] w fun e w' => e = .returned (.int .i64 24) ∧ w' = w := by
  have h := bits_in 2 24 (by decide) w
  rw [fN_two, fN_24] at h
  exact h

theorem most_lit (w : World) : Calls Try.prog 16 #[] w fun e w' => e = .returned (.complex .f64 4787326403894837248 4787326403894837248) ∧ w' = w := by
  have h := most_any w
  rw [fN_most] at h
  exact h

theorem alive_any (w : World) : Calls Try.prog 8 #[] w fun e w' => e = .returned (.bool true) ∧ Below w.heap.size w w' := by
  have o1 : (FloatKind.f64.format.order 4607182418800017408 4607182418800017408 == some .eq) = true := by decide +kernel
  have o2 : (FloatKind.f64.format.order 4625196817309499392 4625196817309499392 == some .eq) = true := by decide +kernel
  have o3 : (FloatKind.f64.format.order 4611686018427387904 4611686018427387904 == some .eq) = true := by decide +kernel
  have o4 : (FloatKind.f64.format.order 4627448617123184640 4627448617123184640 == some .eq) = true := by decide +kernel
  have o5 : (FloatKind.f64.format.order 4787326403894837248 4787326403894837248 == some .eq) = true := by decide +kernel
  go_enter Try.func8, Try.ntmps8
  go_wp2_with (first
    | (go_at_call 12; refine (of_300 _).mono ?_; rintro e w1 ⟨rfl, rfl⟩)
    | (go_at_call 11; refine (sum_two (reads_built w1 #[.int .i64 97, .int .i64 300] _ 2 rfl)).mono ?_; rintro e w2 ⟨rfl, rfl⟩)
    | (go_at_call 15; refine (less_two _).mono ?_; rintro e w3 ⟨rfl, rfl⟩)
    | (go_at_call 13; refine (tokens_two _).mono ?_; rintro e w4 ⟨rfl, rfl⟩)
    | (go_at_call 14; refine (bits_two _).mono ?_; rintro e w5 ⟨rfl, rfl⟩)
    | (go_at_call 16; refine (most_lit _).mono ?_; rintro e w6 ⟨rfl, rfl⟩))
  go_ret
  exact ⟨rfl, (Below.refl _ _).alloc (Nat.le_refl _) _⟩

theorem eq_self (n : Nat) (h : n < 9007199254740992) : (FloatKind.f64.format.order (fN n) (fN n) == some .eq) = true := by rw [eq_fN n n h h, decide_eq_true rfl]
theorem eq_zero : (FloatKind.f64.format.order (fN 0) 0 == some .eq) = true := by decide +kernel
theorem neq_one : (FloatKind.f64.format.order (fN 1) 0 == some .eq) = false := by decide +kernel

/-- An operation that did not run has yielded nothing: a guard within a guard that was struck. -/
theorem yield_undef : yielded.match_1 (motive := fun _ => Option Bool) (some undef) (fun b => some b) (fun _ => none) = none := rfl
end Go.Proofs.Ytdnjmlenpelfgaa
