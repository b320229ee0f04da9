/-
  Contract of package hits: Longest.
-/
import Derived.Test.YtchbjokcnpcgcaaHitPieces
namespace Go.Proofs.Ytchbjokcnpcgcaa
open Go.ChangeShapes Go.WideShapes Go.ChangeAt Go.RowKit

theorem prefix_text (x s : ByteArray) : nums s <+: nums x ↔ s.size ≤ x.size ∧ x.extract 0 s.size = s := by
  constructor
  · intro h
    have h1 := h.length_le
    rw [nums_length, nums_length] at h1
    refine ⟨h1, nums_inj _ _ ?_⟩
    rw [nums_extract, List.drop_zero, Nat.sub_zero, ← nums_length s]
    exact (List.prefix_iff_eq_take.1 h).symm
  · rintro ⟨_, h2⟩
    have h3 := congrArg nums h2
    rw [nums_extract, List.drop_zero, Nat.sub_zero] at h3
    rw [← h3]
    exact List.take_prefix _ _

/-- The longest of the first i phrases that begin y. -/
def LgAt (L : List ByteArray) (y : List Nat) (i : Nat) (k : Int) (m : Nat) : Prop :=
  (k = -1 ∧ m = 0 ∧ ∀ id (h : id < L.length), id < i → ¬ nums (L[id]'h) <+: y) ∨ ∃ (id : Nat) (h : id < L.length), id < i ∧ k = (id : Int) ∧ m = (L[id]'h).size ∧ nums (L[id]'h) <+: y ∧ ∀ id2 (h2 : id2 < L.length), id2 < i → nums (L[id2]'h2) <+: y → (L[id2]'h2).size ≤ m

theorem lgAt_zero (L : List ByteArray) (y : List Nat) : LgAt L y 0 (-1) 0 := .inl ⟨rfl, rfl, fun _ _ h => by omega⟩

theorem LgAt.skip {L : List ByteArray} {y : List Nat} {i m : Nat} {k : Int} (h : LgAt L y i k m) (hi : i < L.length) (hs : ¬ ((L[i]'hi).size > m ∧ nums (L[i]'hi) <+: y)) (h1 : 0 < (L[i]'hi).size) : LgAt L y (i + 1) k m := by
  rcases h with ⟨rfl, rfl, h2⟩ | ⟨id, h2, h3, rfl, h4, h5, h6⟩
  · refine .inl ⟨rfl, rfl, fun id h3 h4 h5 => ?_⟩
    by_cases e : id = i
    · subst e
      exact hs ⟨h1, h5⟩
    · exact h2 id h3 (by omega) h5
  · refine .inr ⟨id, h2, by omega, rfl, h4, h5, fun id2 h7 h8 h9 => ?_⟩
    by_cases e : id2 = i
    · subst e
      rcases Nat.lt_or_ge m (L[id2]'h7).size with h10 | h10
      · exact absurd ⟨h10, h9⟩ hs
      · exact h10
    · exact h6 id2 h7 (by omega) h9

theorem LgAt.take {L : List ByteArray} {y : List Nat} {i m : Nat} {k : Int} (h : LgAt L y i k m) (hi : i < L.length) (h1 : m < (L[i]'hi).size) (h2 : nums (L[i]'hi) <+: y) : LgAt L y (i + 1) (i : Int) (L[i]'hi).size := by
  refine .inr ⟨i, hi, by omega, rfl, rfl, h2, fun id2 h7 h8 h9 => ?_⟩
  by_cases e : id2 = i
  · subst e; exact Nat.le_refl _
  · rcases h with ⟨rfl, rfl, h3⟩ | ⟨id, _, h3, rfl, h4, h5, h6⟩
    · exact absurd h9 (h3 id2 h7 (by omega))
    · have := h6 id2 h7 (by omega) h9
      omega

end Go.Proofs.Ytchbjokcnpcgcaa
