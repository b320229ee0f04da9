/-
  Contract of the document's own Stands.
-/
import Derived.Test.YtdplflcaanmmiabHitWords
import Derived.Test.YtdplflcaanmmiabFindWord
namespace Go.Proofs.Ytdplflcaanmmiab
open Go.ChangeShapes Go.WideShapes Go.ChangeAt Go.RowKit

/-- The lengths of the phrases that stand at a place, from the greatest one down to one that is greater than n. -/
def standsFrom (P : List (List Nat)) (x : List Nat) (M n : Nat) : List Nat := ((List.range' (n + 1) (M - n)).reverse).filter (fun k => decide (x.take k ∈ P))

theorem standsFrom_start (P : List (List Nat)) (x : List Nat) (M : Nat) : standsFrom P x M M = [] := by simp [standsFrom]
theorem standsFrom_end (P : List (List Nat)) (x : List Nat) (m : Nat) : standsFrom P x (min m x.length) 0 = standsT P m x := by simp [standsFrom, standsT]
theorem standsFrom_next (P : List (List Nat)) (x : List Nat) (M n : Nat) (h : n + 1 ≤ M) : standsFrom P x M n = standsFrom P x M (n + 1) ++ (if x.take (n + 1) ∈ P then [n + 1] else []) := by
  have e : List.range' (n + 1) (M - n) = (n + 1) :: List.range' (n + 1 + 1) (M - (n + 1)) := by
    rw [show M - n = (M - (n + 1)) + 1 by omega, List.range'_succ]
  rw [standsFrom, e, List.reverse_cons, List.filter_append]
  congr 1
  by_cases hm : x.take (n + 1) ∈ P
  · rw [if_pos hm]; simp [hm]
  · rw [if_neg hm]; simp [hm]
theorem standsFrom_few (P : List (List Nat)) (x : List Nat) (M n : Nat) : (standsFrom P x M n).length ≤ M := by
  unfold standsFrom
  refine Nat.le_trans (List.length_filter_le _ _) ?_
  simp

theorem slice_amid (b : ByteArray) (i j : Nat) (hij : i ≤ j) (hj : j ≤ b.size) (W : World) : (Instr.slice 9 (.string b) (some (.int .i64 (i : Int))) (some (.int .i64 (j : Int))) none).run Try.prog W = .ok (.string (b.extract i j)) W := by
  rw [run_slice_string (P := Try.prog) W 9 b .i64 .i64 (i : Int) (j : Int) Try.underlying9 (by omega) (by omega) (by omega)]
  rw [show ((i : Int)).toNat = i by omega, show ((j : Int)).toNat = j by omega]

theorem nums_amid (b : ByteArray) (i n : Nat) : nums (b.extract i (i + n)) = ((nums b).drop i).take n := by
  rw [nums_extract, show i + n - i = n by omega]

end Go.Proofs.Ytdplflcaanmmiab
