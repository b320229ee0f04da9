/-
  The longest end of a text that is a beginning. No Go here.
-/
import Derived.Test.YtfeibhdnmfiflaaLinksMath
namespace Go.Proofs.Ytfeibhdnmfiflaa

/-- The longest end of z that is among A (the empty one, if none). -/
def longT (A : List (List Nat)) : List Nat → List Nat
  | [] => []
  | c :: t => if c :: t ∈ A then c :: t else longT A t

theorem longT_at (A : List (List Nat)) (z : List Nat) (h : z ∈ A) : longT A z = z := by
  cases z with
  | nil => rfl
  | cons c t => rw [longT, if_pos h]

theorem longT_skip (A : List (List Nat)) (x : List Nat) (k : Nat) (hk : k < x.length) (h : x.drop k ∉ A) : longT A (x.drop k) = longT A (x.drop (k + 1)) := by
  have e := List.drop_eq_getElem_cons hk
  rw [e] at h
  conv => lhs; rw [e, longT, if_neg h]

theorem failT_long (A : List (List Nat)) (x : List Nat) (h0 : [] ∈ A) : failT A x = longT A (x.drop 1) := by
  cases x with
  | nil => rfl
  | cons c t =>
    rw [List.drop_one, List.tail_cons]
    rw [failT]
    induction t with
    | nil => rw [if_pos h0]; rfl
    | cons d t ih =>
      rw [longT]
      split
      · rfl
      · rw [failT]; exact ih

end Go.Proofs.Ytfeibhdnmfiflaa
