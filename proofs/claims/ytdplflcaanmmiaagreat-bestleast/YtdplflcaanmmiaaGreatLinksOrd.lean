/-
  The order of nodes: the sorted row is the document's list. No Go here.
-/
import Derived.Test.YtdplflcaanmmiaaGreatSortX
import Derived.Test.YtdplflcaanmmiaaGreatMath
namespace Go.Proofs.YtdplflcaanmmiaaGreat

/-- Two lists whose ranks go up and that have the same members are one. -/
theorem rising_once (r : Nat → Nat) : ∀ (L M : List Nat), L.Pairwise (fun a b => r a < r b) → M.Pairwise (fun a b => r a < r b) → (∀ x, x ∈ L ↔ x ∈ M) → L = M := by
  intro L
  induction L with
  | nil =>
    intro M _ _ h
    cases M with
    | nil => rfl
    | cons b M => have := (h b).2 (by simp); simp at this
  | cons a L ih =>
    intro M hL hM h
    cases M with
    | nil => have := (h a).1 (by simp); simp at this
    | cons b M =>
      rw [List.pairwise_cons] at hL hM
      have hab : a = b := by
        have h1 := (h a).1 (by simp)
        have h2 := (h b).2 (by simp)
        rcases List.mem_cons.1 h1 with e | e
        · exact e
        · rcases List.mem_cons.1 h2 with e2 | e2
          · exact e2.symm
          · have := hM.1 a e; have := hL.1 b e2; omega
      subst hab
      rw [ih M hL.2 hM.2 (fun x => ?_)]
      have hx := h x
      constructor
      · intro hm
        rcases List.mem_cons.1 (hx.1 (List.mem_cons_of_mem _ hm)) with e | e
        · have := hL.1 x hm; rw [e] at this; omega
        · exact e
      · intro hm
        rcases List.mem_cons.1 (hx.2 (List.mem_cons_of_mem _ hm)) with e | e
        · have := hM.1 x hm; rw [e] at this; omega
        · exact e

/-- How deep a node is. -/
def depN (A : List (List Nat)) (i : Nat) : Nat := (A.getD i []).length

theorem orderN_rising (A : List (List Nat)) (most : Nat) (hA : A.length ≤ 1000000) : (orderN A most).Pairwise (fun a b => rk (depN A) a < rk (depN A) b) := by
  unfold orderN
  rw [List.pairwise_flatMap]
  refine ⟨fun n _ => ?_, ?_⟩
  · have h := List.Pairwise.filter (fun i => decide ((A.getD i []).length = n)) (List.pairwise_lt_range (n := A.length))
    refine List.Pairwise.imp_of_mem (fun {a b} ha hb hab => ?_) h
    simp only [List.mem_filter, decide_eq_true_eq] at ha hb
    unfold rk depN
    omega
  · refine List.pairwise_lt_range.imp (fun {a b} hab => ?_)
    intro x hx y hy
    simp only [List.mem_filter, decide_eq_true_eq, List.mem_range] at hx hy
    unfold rk depN
    omega

/-- The sorted row, as a list. -/
theorem order_is (A : List (List Nat)) (most : Nat) (hm : ∀ x ∈ A, x.length ≤ most) (hA : A.length ≤ 1000000) (f : Nat → Nat) (hs : Srt (depN A) f 0 A.length) (hS : Same (fun k => k) f 0 A.length) : (List.range A.length).map f = orderN A most := by
  refine rising_once (rk (depN A)) _ _ ?_ (orderN_rising A most hA) (fun x => ?_)
  · rw [List.pairwise_map]
    refine List.Pairwise.imp_of_mem (fun {a b} ha hb hab => ?_) (List.pairwise_lt_range (n := A.length))
    exact hs a b (Nat.zero_le _) hab (List.mem_range.1 hb)
  · rw [orderN_mem A most hm, List.mem_map]
    constructor
    · rintro ⟨k, hk, rfl⟩
      obtain ⟨k', _, h2, e⟩ := hS.back k (Nat.zero_le _) (List.mem_range.1 hk)
      rw [e]; exact h2
    · intro hx
      obtain ⟨k', _, h2, e⟩ := hS.forth x (Nat.zero_le _) hx
      exact ⟨k', List.mem_range.2 h2, e.symm⟩

theorem orderN_length (A : List (List Nat)) (most : Nat) (hm : ∀ x ∈ A, x.length ≤ most) : (orderN A most).length = A.length := by
  have h1 := List.Nodup.length_le_of_subset (orderN_once A most) (l₂ := List.range A.length) (fun x hx => List.mem_range.2 ((orderN_mem A most hm x).1 hx))
  have h2 := List.Nodup.length_le_of_subset (l₁ := List.range A.length) (l₂ := orderN A most) List.nodup_range (fun x hx => (orderN_mem A most hm x).2 (List.mem_range.1 hx))
  rw [List.length_range] at h1 h2
  omega
end Go.Proofs.YtdplflcaanmmiaaGreat
