/-
  Lists of numbers as cells: bytes, ints.
-/
import Derived.Test.YtchbjokcnpcgcaaSlices
namespace Go.Proofs.Ytchbjokcnpcgcaa

/-- Bytes as cells. -/
def octs (xs : List Nat) : List Value := xs.map fun x : Nat => Value.int .u8 (x : Int)
theorem octs_length (xs : List Nat) : (octs xs).length = xs.length := by simp [octs]
theorem octs_snoc (xs : List Nat) (y : Nat) : octs xs ++ [.int .u8 (y : Int)] = octs (xs ++ [y]) := by simp [octs]

/-- Numbers as cells. -/
def numsI (xs : List Nat) : List Value := xs.map fun x : Nat => Value.int .i64 (x : Int)
theorem numsI_length (xs : List Nat) : (numsI xs).length = xs.length := by simp [numsI]
theorem numsI_at (xs : List Nat) (i : Nat) (h : i < xs.length) : (numsI xs)[i]? = some (.int .i64 ((xs[i]'h : Nat) : Int)) := by simp [numsI, h]
theorem numsI_one (xs : List Nat) : ∀ u ∈ numsI xs, u.oneCell' = true := by
  intro u hu
  simp only [numsI, List.mem_map] at hu
  obtain ⟨x, _, rfl⟩ := hu
  rfl
end Go.Proofs.Ytchbjokcnpcgcaa
