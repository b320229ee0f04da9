/-
  Contracts of the document's own First, Token, Greedy.
-/
import Derived.Test.YtdplflcaanmmiabRefStands
import Derived.Test.YtdplflcaanmmiabGreedy
namespace Go.Proofs.Ytdplflcaanmmiab
open Go.ChangeShapes Go.WideShapes Go.ChangeAt Go.RowKit

theorem drop_some {b : ByteArray} {i : Nat} (hi : i < b.size) : (nums b).drop i ≠ [] := by
  intro e
  have := congrArg List.length e
  rw [List.length_drop, nums_length] at this
  simp at this
  omega

theorem standsT_few3 (P : List (List Nat)) (m : Nat) (x : List Nat) : (standsT P m x).length ≤ m := by
  unfold standsT
  refine Nat.le_trans (List.length_filter_le _ _) ?_
  simp
  omega

end Go.Proofs.Ytdplflcaanmmiab
