/-
  What links are right: of each node where one goes on, which phrase ends there, too. No Go here.
-/
import Derived.Test.YtdplflcaanmmiaaGreatLinksOrd
namespace Go.Proofs.YtdplflcaanmmiaaGreat

/-- The text of a node. -/
def txt (A : List (List Nat)) (i : Nat) : List Nat := A.getD i []

/-- Where one goes on from a node. -/
def RF (A : List (List Nat)) (i : Nat) : Nat := A.idxOf (failT A (txt A i))

/-- A text's number, of a text that may be none. -/
def idx0 (A : List (List Nat)) : Option (List Nat) → Nat
  | none => 0
  | some s => A.idxOf s

/-- Which phrase ends there, too. -/
def RU (A P : List (List Nat)) (i : Nat) : Nat := idx0 A (outT P (txt A i))

/-- Both are right at node i. -/
def Rt (A P : List (List Nat)) (F U : Nat → Nat) (i : Nat) : Prop := F i = RF A i ∧ U i = RU A P i

theorem txt_at {A : List (List Nat)} {i : Nat} (h : i < A.length) : txt A i = A[i]'h := by unfold txt; simp [List.getD, h]

theorem txt_mem {A : List (List Nat)} {i : Nat} (h : i < A.length) : txt A i ∈ A := by rw [txt_at h]; exact List.getElem_mem h

theorem txt_idx {A : List (List Nat)} {x : List Nat} (h : x ∈ A) : txt A (A.idxOf x) = x := by
  have h1 : A.idxOf x < A.length := List.idxOf_lt_length_of_mem h
  rw [txt_at h1]; exact List.getElem_idxOf h1

theorem idx_lt {A : List (List Nat)} {x : List Nat} (h : x ∈ A) : A.idxOf x < A.length := List.idxOf_lt_length_of_mem h

theorem nodes_mem0 {A : List (List Nat)} (h : Nodes A) : [] ∈ A := List.mem_of_getElem? h.root

theorem idx_nil {A : List (List Nat)} (h : Nodes A) : A.idxOf [] = 0 := by
  have h0 := h.root
  cases A with
  | nil => cases h0
  | cons a A =>
    simp at h0
    subst h0
    simp

theorem RF_lt {A : List (List Nat)} (h : Nodes A) (i : Nat) : RF A i < A.length := idx_lt (failT_mem A (nodes_mem0 h) _)

theorem RF_txt {A : List (List Nat)} (h : Nodes A) (i : Nat) : txt A (RF A i) = failT A (txt A i) := txt_idx (failT_mem A (nodes_mem0 h) _)

theorem RF_zero {A : List (List Nat)} (h : Nodes A) : RF A 0 = 0 := by
  have h0 : txt A 0 = [] := by unfold txt; have := h.root; simp [List.getD, this]
  unfold RF
  rw [h0]
  exact idx_nil h

theorem RU_zero {A : List (List Nat)} (h : Nodes A) (P : List (List Nat)) : RU A P 0 = 0 := by
  have h0 : txt A 0 = [] := by unfold txt; have := h.root; simp [List.getD, this]
  unfold RU
  rw [h0]
  rfl

theorem txt_zero {A : List (List Nat)} (h : Nodes A) : txt A 0 = [] := by unfold txt; have := h.root; simp [List.getD, this]

/-- A node without text is the root. -/
theorem txt_nil {A : List (List Nat)} (h : Nodes A) {i : Nat} (hi : i < A.length) (e : txt A i = []) : i = 0 := by
  have h1 := idx_nil h
  have h2 : A.idxOf (txt A i) = i := by
    rw [txt_at hi]
    exact (List.Nodup.idxOf_getElem h.once i hi)
  rw [← h2, e, h1]

/-- The first phrase of those that one goes on to. -/
theorem RU_by {A P : List (List Nat)} (h : Nodes A) (hP : ∀ s ∈ P, s ∈ A) (i : Nat) (hi : txt A i ≠ []) : RU A P i = if failT A (txt A i) ∈ P then RF A i else RU A P (RF A i) := by
  unfold RU
  rw [outT_step A P hP (txt A i), if_neg hi, RF_txt h]
  by_cases hm : failT A (txt A i) ∈ P
  · rw [if_pos hm, if_pos hm]
    rfl
  · rw [if_neg hm, if_neg hm]
end Go.Proofs.YtdplflcaanmmiaaGreat
