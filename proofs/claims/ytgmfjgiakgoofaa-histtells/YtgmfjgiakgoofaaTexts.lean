/-
  Texts as lists of numbers, and back. No Go here.
-/
import Derived.Laws.BitsLemmas
import Derived.WalkKit
import Derived.Laws.BytesArg
namespace Go.Proofs.Ytgmfjgiakgoofaa

/-- A text as the numbers of its bytes, and back. -/
def nums (b : ByteArray) : List Nat := b.data.toList.map UInt8.toNat
def bytesOf (xs : List Nat) : ByteArray := ⟨(xs.map UInt8.ofNat).toArray⟩

theorem nums_length (b : ByteArray) : (nums b).length = b.size := by unfold nums; rw [List.length_map, Array.length_toList]; rfl

theorem nums_byte (b : ByteArray) : ∀ x ∈ nums b, x < 256 := by
  intro x hx
  simp only [nums, List.mem_map] at hx
  obtain ⟨y, _, rfl⟩ := hx
  exact UInt8.toNat_lt y

theorem nums_append (a b : ByteArray) : nums (a ++ b) = nums a ++ nums b := by unfold nums; rw [ByteArray.data_append, Array.toList_append, List.map_append]

theorem bytesOf_nums (b : ByteArray) : bytesOf (nums b) = b := by
  apply ByteArray.ext
  simp [bytesOf, nums, List.map_map, Function.comp_def]

theorem nums_bytesOf (xs : List Nat) (h : ∀ x ∈ xs, x < 256) : nums (bytesOf xs) = xs := by
  simp only [bytesOf, nums, List.map_map, Function.comp_def]
  induction xs with
  | nil => rfl
  | cons x xs ih =>
    rw [List.map_cons, ih (fun y hy => h y (List.mem_cons_of_mem _ hy))]
    rw [UInt8.toNat_ofNat', Nat.mod_eq_of_lt (h x List.mem_cons_self)]

theorem nums_inj (a b : ByteArray) (h : nums a = nums b) : a = b := by rw [← bytesOf_nums a, ← bytesOf_nums b, h]

theorem bytesOf_size (xs : List Nat) : (bytesOf xs).size = xs.length := by simp [bytesOf, ByteArray.size]

theorem bytesOf_append (xs ys : List Nat) : bytesOf xs ++ bytesOf ys = bytesOf (xs ++ ys) := by
  apply ByteArray.ext
  simp [bytesOf]

theorem bytesOf_strs (xs : List Nat) : strOfNums (xs.map fun x : Nat => (x : Int)) = bytesOf xs := by
  simp [strOfNums, bytesOf, List.map_map, Function.comp_def]

theorem nums_extract (b : ByteArray) (i j : Nat) : nums (b.extract i j) = ((nums b).drop i).take (j - i) := by
  simp [nums, List.map_take, List.map_drop, ByteArray.data_extract]

theorem nums_at (b : ByteArray) (i : Nat) (h : i < b.size) : (nums b)[i]'(by rw [nums_length]; exact h) = (b[i]'h).toNat := by
  simp [nums]
  rfl

theorem drop_nums (b : ByteArray) (i : Nat) (h : i < b.size) : (nums b).drop i = (b[i]'h).toNat :: (nums b).drop (i + 1) := by
  rw [List.drop_eq_getElem_cons (by rw [nums_length]; exact h), nums_at b i h]

theorem take_nums (b : ByteArray) (i : Nat) (h : i < b.size) : (nums b).take (i + 1) = (nums b).take i ++ [(b[i]'h).toNat] := by
  rw [List.take_succ_eq_append_getElem (by rw [nums_length]; exact h), nums_at b i h]

theorem take_all (b : ByteArray) : (nums b).take b.size = nums b := List.take_of_length_le (by rw [nums_length]; exact Nat.le_refl _)
end Go.Proofs.Ytgmfjgiakgoofaa
