/-
  What whichever tokens mean: one list behind another, more than there may be, nothing at all. No Go here: lists of numbers alone.
-/
import Derived.Test.YtchbjokcnpcgcaaRefMeanAll
namespace Go.Proofs.Ytchbjokcnpcgcaa

section
variable (P : List (List Nat))

/-- No error, or nothing is told. -/
theorem meanR_either (m : Nat) : ∀ (xs : List Int) (y : List Nat), (meanR P m y xs).2 = 0 ∨ (meanR P m y xs).1 = [] ∧ ((meanR P m y xs).2 = 9 ∨ (meanR P m y xs).2 = 10) := by
  intro xs
  induction xs with
  | nil => intro y; exact .inl rfl
  | cons x xs ih =>
    intro y
    by_cases h : isI P x
    · by_cases h2 : m < y.length + (sayT P x.toNat).length
      · rw [meanR_much P m y x xs h h2]; exact .inr ⟨rfl, .inr rfl⟩
      · rw [meanR_next P m y x xs h h2]; exact ih _
    · rw [meanR_none P m y x xs h]; exact .inr ⟨rfl, .inl rfl⟩

/-- One list behind another. -/
theorem meanR_append (m : Nat) (ys : List Int) : ∀ (xs : List Int) (y : List Nat), meanR P m y (xs ++ ys) = if (meanR P m y xs).2 = 0 then meanR P m (meanR P m y xs).1 ys else meanR P m y xs := by
  intro xs
  induction xs with
  | nil => intro y; rw [List.nil_append, meanR_nil, if_pos rfl]
  | cons x xs ih =>
    intro y
    rw [List.cons_append]
    by_cases h : isI P x
    · by_cases h2 : m < y.length + (sayT P x.toNat).length
      · rw [meanR_much P m y x _ h h2, meanR_much P m y x _ h h2, if_neg (by decide)]
      · rw [meanR_next P m y x _ h h2, meanR_next P m y x _ h h2]; exact ih _
    · rw [meanR_none P m y x _ h, meanR_none P m y x _ h, if_neg (by decide)]

/-- The first that is wrong is told: a beginning that is wrong tells what all of it tells. -/
theorem meanR_first (m : Nat) (xs ys : List Int) (y : List Nat) (h : (meanR P m y xs).2 ≠ 0) : meanR P m y (xs ++ ys) = meanR P m y xs := by
  rw [meanR_append, if_neg h]

/-- Of a list that is right each beginning is. -/
theorem meanR_begin (m : Nat) (xs ys : List Int) (y : List Nat) (h : (meanR P m y (xs ++ ys)).2 = 0) : (meanR P m y xs).2 = 0 := by
  rcases Nat.eq_zero_or_pos (meanR P m y xs).2 with h2 | h2
  · exact h2
  · rw [meanR_first P m xs ys y (by omega)] at h
    exact h

/-- More than there may be. -/
theorem meanR_over (m : Nat) : ∀ (xs : List Int) (y : List Nat), (∀ x ∈ xs, isI P x) → y.length ≤ m → m < y.length + (meanT P (xs.map Int.toNat)).length → meanR P m y xs = ([], 10) := by
  intro xs
  induction xs with
  | nil => intro y _ h1 h2; rw [List.map_nil, meanT_nil, List.length_nil] at h2; omega
  | cons x xs ih =>
    intro y hx h1 h2
    have hi := hx x (by simp)
    by_cases h3 : m < y.length + (sayT P x.toNat).length
    · exact meanR_much P m y x xs hi h3
    · rw [meanR_next P m y x xs hi h3]
      rw [List.map_cons, meanT_cons, List.length_append] at h2
      exact ih _ (fun z hz => hx z (List.mem_cons_of_mem _ hz)) (by rw [List.length_append]; omega) (by rw [List.length_append]; omega)

/-- A bound that all of it fits: nothing but a token that is none can be wrong. -/
theorem meanR_wide (m c : Nat) (hc : ∀ t, (sayT P t).length ≤ c) : ∀ (xs : List Int) (y : List Nat), y.length + c * xs.length ≤ m → (meanR P m y xs).2 = 0 ∨ (meanR P m y xs).2 = 9 := by
  intro xs
  induction xs with
  | nil => intro y _; exact .inl rfl
  | cons x xs ih =>
    intro y h
    rw [List.length_cons, Nat.mul_succ] at h
    have h1 := hc x.toNat
    by_cases hi : isI P x
    · rw [meanR_next P m y x xs hi (by omega)]
      exact ih _ (by rw [List.length_append]; omega)
    · rw [meanR_none P m y x xs hi]; exact .inr rfl

/-- Where something is none, and the bound is wide, that is told. -/
theorem meanR_bad (m c : Nat) (hc : ∀ t, (sayT P t).length ≤ c) (xs : List Int) (y : List Nat) (h : y.length + c * xs.length ≤ m) (hx : ¬ ∀ x ∈ xs, isI P x) : meanR P m y xs = ([], 9) := by
  have h1 := meanR_wide P m c hc xs y h
  have h2 := meanR_either P m xs y
  rcases h1 with h1 | h1
  · exact absurd (meanR_ok P m xs y h1).1 hx
  · rcases h2 with h2 | h2
    · rw [h1] at h2; cases h2
    · exact Prod.ext h2.1 h1

/-- A bound of 0: only nothing may be meant. -/
theorem meanR_zero (h0 : [] ∉ P) (xs : List Int) : (meanR P 0 [] xs).1 = [] ∧ ((meanR P 0 [] xs).2 = 0 ↔ xs = []) := by
  cases xs with
  | nil => exact ⟨rfl, by simp [meanR_nil]⟩
  | cons x xs =>
    by_cases hi : isI P x
    · have hs : 0 < (sayT P x.toNat).length := by
        unfold sayT
        split
        · simp
        · unfold isI at hi
          have hk : x.toNat - 256 < P.length := by omega
          rw [List.getD_eq_getElem?_getD, List.getElem?_eq_getElem hk, Option.getD_some]
          refine List.length_pos_iff.2 (fun e => h0 ?_)
          rw [← e]
          exact List.getElem_mem hk
      rw [meanR_much P 0 [] x xs hi (by simpa using hs)]
      exact ⟨rfl, by simp⟩
    · rw [meanR_none P 0 [] x xs hi]
      exact ⟨rfl, by simp⟩
end
end Go.Proofs.Ytchbjokcnpcgcaa
