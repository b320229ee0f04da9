/-
  Contracts of package greedy: Next, Parse.
-/
import Derived.Test.YtdplflcaanmmiabHitWords
namespace Go.Proofs.Ytdplflcaanmmiab
open Go.ChangeShapes Go.WideShapes Go.ChangeAt Go.RowKit

/-- How many bytes greedy takes at the beginning of y, and the token. -/
def gN (L : List ByteArray) (y : List Nat) : Nat := firstT (L.map nums) 40 y
def gT (L : List ByteArray) (y : List Nat) : Nat := tokT (L.map nums) y (gN L y)

/-- All tokens of greedy. -/
def gA (L : List ByteArray) (y : List Nat) : List Nat := greedyT (L.map nums) 40 y

theorem gN_takes {L : List ByteArray} (hL : Fine L) : Takes (L.map nums) (gN L) := firstT_takes _ 40 (phrases_short hL)

theorem gA_nil (L : List ByteArray) : gA L [] = [] := rfl
theorem gA_cons {L : List ByteArray} (hL : Fine L) {y : List Nat} (hy : y ≠ []) : gA L y = gT L y :: gA L (y.drop (gN L y)) := parsT_cons _ _ (gN_takes hL) y hy

theorem gN_pos {L : List ByteArray} (hL : Fine L) {y : List Nat} (hy : y ≠ []) : 1 ≤ gN L y ∧ gN L y ≤ y.length := ⟨(gN_takes hL y hy).1, (gN_takes hL y hy).2.1⟩

theorem gT_none {L : List ByteArray} (hL : Fine L) {y : List Nat} (hy : y ≠ []) (h : standsT (L.map nums) 40 y = []) : gN L y = 1 ∧ gT L y = y.headD 0 := by
  have h1 : gN L y = 1 := by unfold gN firstT; rw [h]; rfl
  refine ⟨h1, ?_⟩
  unfold gT tokT
  rw [h1, if_neg]
  intro hm
  have h2 : 1 ∈ standsT (L.map nums) 40 y := (standsT_mem _ 40 (phrases_short hL) y 1).2 ⟨Nat.le_refl _, by have := List.length_pos_iff.2 hy; omega, hm⟩
  rw [h] at h2
  cases h2

theorem gT_some {L : List ByteArray} {y : List Nat} {m : Nat} {l : List Nat} (h : standsT (L.map nums) 40 y = m :: l) (hm : y.take m ∈ L.map nums) : gN L y = m ∧ gT L y = 256 + (L.map nums).idxOf (y.take m) := by
  have h1 : gN L y = m := by unfold gN firstT; rw [h]; rfl
  refine ⟨h1, ?_⟩
  unfold gT tokT
  rw [h1, if_pos hm]

end Go.Proofs.Ytdplflcaanmmiab
