/-
  Beginnings of phrases, by their numbers: phrase by phrase, byte by byte, one that is not there yet is the next. No Go here: lists of numbers alone.
-/
import Derived.Test.YtchbjokcnpcgcaaTexts
namespace Go.Proofs.Ytchbjokcnpcgcaa

/-- The first k beginnings of s, laid behind those of A where they lack. -/
def addUpto (A : List (List Nat)) (s : List Nat) : Nat → List (List Nat)
  | 0 => A
  | k + 1 => if s.take (k + 1) ∈ addUpto A s k then addUpto A s k else addUpto A s k ++ [s.take (k + 1)]

/-- All beginnings, by their numbers. -/
def nodesN (L : List (List Nat)) : List (List Nat) := L.foldl (fun A s => addUpto A s s.length) [[]]

theorem nodesN_nil : nodesN [] = [[]] := rfl
theorem nodesN_snoc (L : List (List Nat)) (s : List Nat) : nodesN (L ++ [s]) = addUpto (nodesN L) s s.length := by simp [nodesN]

/-- What holds of the numbered beginnings: the root is the first, none comes twice, each one's father is numbered before it. -/
structure Nodes (A : List (List Nat)) : Prop where
  root : A[0]? = some []
  once : A.Nodup
  father : ∀ (i : Nat) (x : List Nat), A[i]? = some x → x ≠ [] → ∃ j, j < i ∧ A[j]? = some x.dropLast

theorem addUpto_prefix (A : List (List Nat)) (s : List Nat) (k : Nat) : A <+: addUpto A s k := by
  induction k with
  | zero => exact List.prefix_refl _
  | succ k ih =>
    rw [addUpto]
    split
    · exact ih
    · exact ih.trans (List.prefix_append _ _)

theorem addUpto_mem (A : List (List Nat)) (s : List Nat) (k : Nat) (x : List Nat) : x ∈ addUpto A s k ↔ x ∈ A ∨ ∃ j, 1 ≤ j ∧ j ≤ k ∧ x = s.take j := by
  induction k with
  | zero =>
    rw [addUpto]
    constructor
    · exact .inl
    · rintro (h | ⟨j, h1, h2, _⟩)
      · exact h
      · omega
  | succ k ih =>
    rw [addUpto]
    split
    · rename_i hm
      rw [ih]
      constructor
      · rintro (h | ⟨j, h1, h2, h3⟩)
        · exact .inl h
        · exact .inr ⟨j, h1, by omega, h3⟩
      · rintro (h | ⟨j, h1, h2, rfl⟩)
        · exact .inl h
        · by_cases e : j = k + 1
          · subst e; exact ih.1 hm
          · exact .inr ⟨j, h1, by omega, rfl⟩
    · rw [List.mem_append, ih, List.mem_singleton]
      constructor
      · rintro ((h | ⟨j, h1, h2, h3⟩) | h)
        · exact .inl h
        · exact .inr ⟨j, h1, by omega, h3⟩
        · exact .inr ⟨k + 1, by omega, by omega, h⟩
      · rintro (h | ⟨j, h1, h2, h3⟩)
        · exact .inl (.inl h)
        · by_cases e : j = k + 1
          · subst e; exact .inr h3
          · exact .inl (.inr ⟨j, h1, by omega, h3⟩)

theorem addUpto_length (A : List (List Nat)) (s : List Nat) (k : Nat) : A.length ≤ (addUpto A s k).length ∧ (addUpto A s k).length ≤ A.length + k := by
  induction k with
  | zero => simp [addUpto]
  | succ k ih =>
    rw [addUpto]
    split
    · omega
    · rw [List.length_append]; simp; omega

theorem Nodes.root_mem {A : List (List Nat)} (h : Nodes A) : [] ∈ A := List.mem_of_getElem? h.root

theorem Nodes.add {A : List (List Nat)} (h : Nodes A) {x y : List Nat} (hx : x ∉ A) (hy : y ∈ A) (hd : x ≠ [] → x.dropLast = y) : Nodes (A ++ [x]) := by
  have hlen : 0 < A.length := by
    rcases Nat.eq_zero_or_pos A.length with h0 | h0
    · have := h.root; rw [List.getElem?_eq_none (by omega)] at this; cases this
    · exact h0
  refine ⟨by rw [List.getElem?_append_left hlen]; exact h.root, ?_, ?_⟩
  · rw [List.nodup_append]
    exact ⟨h.once, by simp, by
      intro a ha b hb
      rw [List.mem_singleton.1 hb]
      rintro rfl
      exact hx ha⟩
  · intro i z hz hne
    rcases Nat.lt_or_ge i A.length with hi | hi
    · rw [List.getElem?_append_left hi] at hz
      obtain ⟨j, hj, e⟩ := h.father i z hz hne
      exact ⟨j, hj, by rw [List.getElem?_append_left (by omega)]; exact e⟩
    · have hi2 : i = A.length := by
        have := (List.getElem?_eq_some_iff.1 hz).1
        rw [List.length_append] at this
        simp at this
        omega
      subst hi2
      rw [List.getElem?_append_right (Nat.le_refl _)] at hz
      simp at hz
      subst hz
      obtain ⟨j, hj, e⟩ := List.getElem_of_mem hy
      exact ⟨j, hj, by rw [List.getElem?_append_left hj, List.getElem?_eq_getElem hj, e, hd hne]⟩

theorem dropLast_take (s : List Nat) (k : Nat) (hk : k + 1 ≤ s.length) : (s.take (k + 1)).dropLast = s.take k := by
  rw [List.take_succ_eq_append_getElem (by omega), List.dropLast_concat]

theorem Nodes.addUpto {A : List (List Nat)} (h : Nodes A) (s : List Nat) (k : Nat) (hk : k ≤ s.length) : Nodes (addUpto A s k) := by
  induction k with
  | zero => exact h
  | succ k ih =>
    have ih := ih (by omega)
    rw [Go.Proofs.Ytchbjokcnpcgcaa.addUpto]
    split
    · exact ih
    · rename_i hm
      refine ih.add hm (y := s.take k) ?_ (fun _ => dropLast_take s k hk)
      rw [addUpto_mem]
      by_cases h0 : k = 0
      · subst h0; left; simpa using h.root_mem
      · exact .inr ⟨k, by omega, by omega, rfl⟩

theorem nodes_one : Nodes [[]] := by
  refine ⟨rfl, by simp, fun i x h hne => ?_⟩
  have := (List.getElem?_eq_some_iff.1 h).1
  simp at this
  subst this
  simp at h
  exact absurd (by first | exact h | exact h.symm) hne

theorem nodesN_from {A : List (List Nat)} (h : Nodes A) (L : List (List Nat)) : Nodes (L.foldl (fun A s => addUpto A s s.length) A) := by
  induction L generalizing A with
  | nil => exact h
  | cons s L ih => exact ih (h.addUpto s s.length (Nat.le_refl _))

theorem nodes_all (L : List (List Nat)) : Nodes (nodesN L) := nodesN_from nodes_one L

theorem fold_mem (L : List (List Nat)) : ∀ (A : List (List Nat)) (x : List Nat), x ∈ L.foldl (fun A s => addUpto A s s.length) A ↔ x ∈ A ∨ ∃ s ∈ L, ∃ j, 1 ≤ j ∧ j ≤ s.length ∧ x = s.take j := by
  induction L with
  | nil => intro A x; simp
  | cons s L ih =>
    intro A x
    rw [List.foldl_cons, ih, addUpto_mem]
    constructor
    · rintro ((h | ⟨j, h1, h2, h3⟩) | ⟨t, ht, j, h⟩)
      · exact .inl h
      · exact .inr ⟨s, by simp, j, h1, h2, h3⟩
      · exact .inr ⟨t, by simp [ht], j, h⟩
    · rintro (h | ⟨t, ht, j, h⟩)
      · exact .inl (.inl h)
      · rcases List.mem_cons.1 ht with rfl | ht
        · exact .inl (.inr ⟨j, h⟩)
        · exact .inr ⟨t, ht, j, h⟩

/-- A list is numbered if it is a beginning of a phrase. -/
theorem nodesN_mem (L : List (List Nat)) (x : List Nat) : x ∈ nodesN L ↔ x = [] ∨ ∃ s ∈ L, ∃ j, 1 ≤ j ∧ j ≤ s.length ∧ x = s.take j := by
  rw [nodesN, fold_mem]; simp

theorem fold_length (L : List (List Nat)) : ∀ A : List (List Nat), (L.foldl (fun A s => addUpto A s s.length) A).length ≤ A.length + (L.map List.length).sum := by
  induction L with
  | nil => intro A; simp
  | cons s L ih =>
    intro A
    rw [List.foldl_cons]
    have h1 := ih (addUpto A s s.length)
    have h2 := (addUpto_length A s s.length).2
    simp only [List.map_cons, List.sum_cons]
    omega

theorem nodesN_length (L : List (List Nat)) : (nodesN L).length ≤ 1 + (L.map List.length).sum := by
  have := fold_length L [[]]
  simpa [nodesN] using this

/-- Beginnings of a numbered one are numbered. -/
theorem nodesN_take (L : List (List Nat)) (x : List Nat) (hx : x ∈ nodesN L) (k : Nat) : x.take k ∈ nodesN L := by
  rw [nodesN_mem] at hx ⊢
  rcases hx with rfl | ⟨s, hs, j, h1, h2, rfl⟩
  · left; simp
  · rw [List.take_take]
    by_cases h0 : min k j = 0
    · left; rw [h0]; rfl
    · exact .inr ⟨s, hs, min k j, by omega, by omega, rfl⟩

/-- With more phrases the numbers stay. -/
theorem fold_prefix (L : List (List Nat)) : ∀ A : List (List Nat), A <+: L.foldl (fun A s => addUpto A s s.length) A := by
  induction L with
  | nil => intro A; exact List.prefix_refl _
  | cons s L ih => intro A; exact (addUpto_prefix A s s.length).trans (ih _)

theorem nodesN_prefix (L M : List (List Nat)) : nodesN L <+: nodesN (L ++ M) := by
  rw [nodesN, nodesN, List.foldl_append]
  exact fold_prefix M _
end Go.Proofs.Ytchbjokcnpcgcaa
