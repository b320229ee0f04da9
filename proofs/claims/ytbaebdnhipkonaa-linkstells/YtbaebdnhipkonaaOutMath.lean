/-
  The phrases that are ends of a text, byte by byte. No Go here.
-/
import Derived.Test.YtbaebdnhipkonaaLinksMath
namespace Go.Proofs.Ytbaebdnhipkonaa

theorem outT_one (P : List (List Nat)) (h0 : [] ∉ P) (y : List Nat) (h : y.length ≤ 1) : outT P y = none := by
  match y, h with
  | [], _ => rfl
  | [c], _ => rw [outT, if_neg h0, outT]

theorem outT_drop (P : List (List Nat)) (x : List Nat) (K : Nat) (h : K + 1 ≤ x.length) : outT P (x.drop (x.length - (K + 1))) = if x.drop (x.length - K) ∈ P then some (x.drop (x.length - K)) else outT P (x.drop (x.length - K)) := by
  rw [List.drop_eq_getElem_cons (show x.length - (K + 1) < x.length by omega), show x.length - (K + 1) + 1 = x.length - K by omega, outT]

end Go.Proofs.Ytbaebdnhipkonaa
