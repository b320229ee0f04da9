/-
  Names of bytes by steps of 64 bits: that no step loses a byte, and how they go on. No Go here: numbers and lists alone.
-/
import Derived.Test.YtbeahodgkdbidaaTexts
import Derived.Laws.BitsAllLaws
namespace Go.Proofs.Ytbeahodgkdbidaa

/-- One byte more. -/
def fstep (h x : Nat) : Nat := (h ^^^ x) * 1099511628211 % 18446744073709551616

/-- The name behind bytes. -/
def fsum (h : Nat) (l : List Nat) : Nat := l.foldl fstep h

/-- The name of a text. -/
def fnv (b : ByteArray) : Nat := fsum 14695981039346656037 (nums b)

theorem fsum_nil (h : Nat) : fsum h [] = h := rfl
theorem fsum_cons (h x : Nat) (l : List Nat) : fsum h (x :: l) = fsum (fstep h x) l := rfl
theorem fsum_append (h : Nat) (l m : List Nat) : fsum h (l ++ m) = fsum (fsum h l) m := by unfold fsum; rw [List.foldl_append]

theorem fstep_lt (h x : Nat) : fstep h x < 18446744073709551616 := Nat.mod_lt _ (by decide)

theorem fsum_lt (l : List Nat) : ∀ h : Nat, h < 18446744073709551616 → fsum h l < 18446744073709551616 := by
  induction l with
  | nil => intro h hh; exact hh
  | cons x l ih => intro h _; rw [fsum_cons]; exact ih _ (fstep_lt h x)

theorem fnv_lt (b : ByteArray) : fnv b < 18446744073709551616 := fsum_lt _ _ (by decide)

theorem mul_back (a : Nat) (ha : a < 18446744073709551616) : a * 1099511628211 % 18446744073709551616 * 14886173955864302971 % 18446744073709551616 = a := by
  rw [Nat.mod_mul_mod, Nat.mul_assoc, Nat.mul_mod a, show 1099511628211 * 14886173955864302971 % 18446744073709551616 = 1 by decide, Nat.mul_one, Nat.mod_mod, Nat.mod_eq_of_lt ha]

theorem fxor_left_inj {a b c : Nat} (h : a ^^^ b = a ^^^ c) : b = c := by
  have := congrArg (a ^^^ ·) h
  simpa [← Nat.xor_assoc] using this

theorem fstep_inj (h x y : Nat) (hh : h < 18446744073709551616) (hx : x < 256) (hy : y < 256) (e : fstep h x = fstep h y) : x = y := by
  have h1 := Nat.xor_lt_two_pow (n := 64) hh (show x < 2 ^ 64 by omega)
  have h2 := Nat.xor_lt_two_pow (n := 64) hh (show y < 2 ^ 64 by omega)
  have a := mul_back _ h1
  have b := mul_back _ h2
  unfold fstep at e
  rw [e, b] at a
  exact fxor_left_inj a.symm

theorem fnv_nil : fnv ⟨#[]⟩ = 14695981039346656037 := rfl
theorem fnv_a : fnv ⟨#[97]⟩ = 12638187200555641996 := by decide +kernel
theorem fnv_append (a b : ByteArray) : fnv (a ++ b) = fsum (fnv a) (nums b) := by rw [fnv, nums_append, fsum_append]; rfl
end Go.Proofs.Ytbeahodgkdbidaa
