/-
  Ends of texts: the last bytes of a text; how long a node's text is; what the links of phrases are.
-/
import Derived.Test.YtfeibhdnmfiflaaLinks
namespace Go.Proofs.Ytfeibhdnmfiflaa
open Go.ChangeShapes Go.WideShapes Go.ChangeAt Go.RowKit

/-- The last bytes of a text. -/
theorem last_text (x : List Nat) (k : Nat) : (bytesOf x).extract k (bytesOf x).size = bytesOf (x.drop k) := by
  apply ByteArray.ext
  apply Array.ext'
  rw [bytesOf_size]
  simp [bytesOf, ByteArray.data_extract, List.map_drop]
  rw [List.take_of_length_le (by simp)]

theorem slice_last (x : List Nat) (k : Nat) (hk : k ≤ x.length) (W : World) : (Instr.slice 9 (.string (bytesOf x)) (some (.int .i64 (k : Int))) none none).run Try.prog W = .ok (.string (bytesOf (x.drop k))) W := by
  have hs := bytesOf_size x
  rw [run_slice_string_l (P := Try.prog) W 9 (bytesOf x) Try.underlying9 .i64 (k : Int) (by omega) (by omega)]
  rw [← last_text]
  rfl

theorem suffix_drop {x y : List Nat} (h : y <:+ x) : x.drop (x.length - y.length) = y := by
  obtain ⟨r, rfl⟩ := h
  rw [List.length_append, Nat.add_sub_cancel, List.drop_left]

/-- Of phrases that may be each beginning is short. -/
theorem node_short {L : List ByteArray} (hL : Fine L) : ∀ x ∈ nodesN (L.map nums), x.length ≤ 40 := by
  intro x hx
  rcases (nodesN_mem _ x).1 hx with rfl | ⟨s, hs, j, _, _, rfl⟩
  · simp
  · obtain ⟨t, ht, rfl⟩ := List.mem_map.1 hs
    have h2 := (((fine_iff L).1 hL).2.1 t ht).2
    rw [List.length_take, nums_length]
    omega

/-- No phrase is empty. -/
theorem phrase_some {L : List ByteArray} (hL : Fine L) : [] ∉ L.map nums := by
  intro h
  obtain ⟨t, ht, e⟩ := List.mem_map.1 h
  have h2 := (((fine_iff L).1 hL).2.1 t ht).1
  have := nums_length t
  rw [e] at this
  simp at this
  omega

theorem txt_short {A : List (List Nat)} {m : Nat} (h : ∀ x ∈ A, x.length ≤ m) (i : Nat) : (txt A i).length ≤ m := by
  by_cases hi : i < A.length
  · exact h _ (txt_mem hi)
  · unfold txt
    simp [List.getD, Nat.le_of_not_lt hi]

/-- Of a phrase that ends there, too: a node that is shorter, and a phrase. -/
theorem RU_some {A P : List (List Nat)} (hP : ∀ s ∈ P, s ∈ A) (i : Nat) (h : RU A P i ≠ 0) : ∃ s, outT P (txt A i) = some s ∧ RU A P i < A.length ∧ txt A (RU A P i) = s ∧ s ∈ P ∧ s.length < (txt A i).length := by
  unfold RU at h ⊢
  cases e : outT P (txt A i) with
  | none => rw [e] at h; exact absurd rfl h
  | some s =>
    obtain ⟨_, h2, h3, _⟩ := outT_some P _ s e
    exact ⟨s, rfl, idx_lt (hP s h3), txt_idx (hP s h3), h3, h2⟩
end Go.Proofs.Ytfeibhdnmfiflaa
