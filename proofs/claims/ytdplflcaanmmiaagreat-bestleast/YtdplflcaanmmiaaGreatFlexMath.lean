/-
  Parsing: flex, which comes the farthest by two tokens. No Go here: lists of numbers alone.
-/
import Derived.Test.YtdplflcaanmmiaaGreatParseMath
namespace Go.Proofs.YtdplflcaanmmiaaGreat

/-- How many bytes a token at the beginning of x may take, the greatest first: of the phrases that stand there, and 1. -/
def lensT (P : List (List Nat)) (m : Nat) (x : List Nat) : List Nat := standsT P m x ++ (if 1 ∈ standsT P m x then [] else [1])

theorem lensT_mem (P : List (List Nat)) (m : Nat) (x : List Nat) (n : Nat) : n ∈ lensT P m x ↔ n ∈ standsT P m x ∨ n = 1 := by
  unfold lensT
  rw [List.mem_append]
  split
  · rename_i h
    constructor
    · rintro (h1 | h1)
      · exact .inl h1
      · cases h1
    · rintro (h1 | rfl)
      · exact .inl h1
      · exact .inl h
  · rw [List.mem_singleton]

theorem lensT_falls (P : List (List Nat)) (m : Nat) (hm : ∀ s ∈ P, s.length ≤ m) (x : List Nat) : (lensT P m x).Pairwise (fun a b => b < a) := by
  unfold lensT
  rw [List.pairwise_append]
  refine ⟨standsT_falls P m x, ?_, ?_⟩
  · split
    · exact List.Pairwise.nil
    · exact List.pairwise_singleton _ _
  · intro a ha b hb
    split at hb
    · cases hb
    · rename_i h
      rw [List.mem_singleton] at hb
      subst hb
      have h1 := (standsT_mem P m hm x a).1 ha
      rcases Nat.lt_or_ge 1 a with h2 | h2
      · exact h2
      · have : a = 1 := by omega
        subst this
        exact absurd ha h

theorem lensT_some (P : List (List Nat)) (m : Nat) (x : List Nat) : lensT P m x ≠ [] := by
  intro h
  have := (lensT_mem P m x 1).2 (.inr rfl)
  rw [h] at this
  cases this

/-- How many bytes flex takes. -/
def secondT (P : List (List Nat)) (m : Nat) (x : List Nat) : Nat := farT (reachT P m x) ((lensT P m x).headD 1) (lensT P m x).tail

theorem secondT_mem (P : List (List Nat)) (m : Nat) (x : List Nat) : secondT P m x ∈ lensT P m x := by
  unfold secondT
  cases e : lensT P m x with
  | nil => exact absurd e (lensT_some P m x)
  | cons a l =>
    rw [List.headD_cons, List.tail_cons]
    rcases farT_mem (reachT P m x) l a with h | h
    · rw [h]; simp
    · exact List.mem_cons_of_mem _ h

/-- One comes no less far by it than by any other token; and of those from which one comes as far it is the longest. -/
theorem secondT_best (P : List (List Nat)) (m : Nat) (hm : ∀ s ∈ P, s.length ≤ m) (x : List Nat) (n : Nat) (hn : n ∈ lensT P m x) : reachT P m x n ≤ reachT P m x (secondT P m x) ∧ (reachT P m x n = reachT P m x (secondT P m x) → n ≤ secondT P m x) := by
  have hf := lensT_falls P m hm x
  unfold secondT
  cases e : lensT P m x with
  | nil => rw [e] at hn; cases hn
  | cons a l =>
    rw [e] at hn hf
    rw [List.headD_cons, List.tail_cons]
    refine ⟨?_, fun h => farT_first _ l a hf n hn h⟩
    rcases List.mem_cons.1 hn with rfl | h
    · exact (farT_best _ l n).1
    · exact (farT_best _ l a).2 n h

theorem secondT_takes (P : List (List Nat)) (m : Nat) (hm : ∀ s ∈ P, s.length ≤ m) : Takes P (secondT P m) := fun x hx => by
  have h1 := (lensT_mem P m x _).1 (secondT_mem P m x)
  have hp : 0 < x.length := List.length_pos_iff.2 hx
  rcases h1 with h | h
  · have := (standsT_mem P m hm x _).1 h
    exact ⟨this.1, this.2.1, .inl this.2.2⟩
  · rw [h]
    exact ⟨Nat.le_refl _, hp, .inr rfl⟩

/-- It takes no more than greedy. -/
theorem secondT_first (P : List (List Nat)) (m : Nat) (hm : ∀ s ∈ P, s.length ≤ m) (x : List Nat) (hx : x ≠ []) : secondT P m x ≤ firstT P m x := by
  rcases (lensT_mem P m x _).1 (secondT_mem P m x) with h | h
  · exact firstT_longest P m x _ h
  · rw [h]; exact (firstT_pos P m hm x hx).1

theorem firstT_lens (P : List (List Nat)) (m : Nat) (x : List Nat) : firstT P m x ∈ lensT P m x := by
  rw [lensT_mem]
  unfold firstT
  cases e : standsT P m x with
  | nil => exact .inr rfl
  | cons a l => exact .inl (by simp)

def flexT (P : List (List Nat)) (m : Nat) (x : List Nat) : List Nat := parsT P (secondT P m) x
end Go.Proofs.YtdplflcaanmmiaaGreat
