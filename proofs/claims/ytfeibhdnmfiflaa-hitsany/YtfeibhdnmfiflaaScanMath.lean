/-
  Scanning: the longest end that is a beginning, byte by byte; all phrases that are ends, the longest first. No Go here: lists of numbers alone.
-/
import Derived.Test.YtfeibhdnmfiflaaLongMath
namespace Go.Proofs.Ytfeibhdnmfiflaa

theorem longT_suffix (A : List (List Nat)) (z : List Nat) : longT A z <:+ z := by
  induction z with
  | nil => exact List.suffix_refl _
  | cons c t ih =>
    rw [longT]
    split
    · exact List.suffix_refl _
    · exact ih.trans (List.suffix_cons c t)

theorem longT_mem (A : List (List Nat)) (h0 : [] ∈ A) (z : List Nat) : longT A z ∈ A := by
  induction z with
  | nil => exact h0
  | cons c t ih =>
    rw [longT]
    split
    · assumption
    · exact ih

theorem longT_longest (A : List (List Nat)) (z s : List Nat) (hs : s <:+ z) (hm : s ∈ A) : s <:+ longT A z := by
  induction z with
  | nil => rw [List.suffix_nil] at hs; rw [hs]; exact List.nil_suffix
  | cons c t ih =>
    rw [longT]
    split
    · exact hs
    · rename_i hn
      rcases List.suffix_cons_iff.1 hs with e | h
      · exact absurd (e ▸ hm) hn
      · exact ih h

/-- What marks it out. -/
theorem longT_is (A : List (List Nat)) (z s : List Nat) (hs : s <:+ z) (hm : s ∈ A) (hb : ∀ r, r <:+ z → r ∈ A → r <:+ s) (h0 : [] ∈ A) : longT A z = s := by
  have h1 := longT_longest A z s hs hm
  have h2 := hb _ (longT_suffix A z) (longT_mem A h0 z)
  exact h2.eq_of_length (Nat.le_antisymm h2.length_le h1.length_le)

/-- One byte more. -/
theorem longT_snoc (A : List (List Nat)) (h0 : [] ∈ A) (hp : ∀ s c, s ++ [c] ∈ A → s ∈ A) (z : List Nat) (c : Nat) : longT A (z ++ [c]) = longT A (longT A z ++ [c]) := by
  have hsuf : longT A z ++ [c] <:+ z ++ [c] := by
    obtain ⟨r, e⟩ := longT_suffix A z
    exact ⟨r, by rw [← List.append_assoc, e]⟩
  refine (longT_is A _ _ (longT_suffix A _ |>.trans hsuf) (longT_mem A h0 _) (fun r hr hm => ?_) h0)
  rcases List.eq_nil_or_concat r with e | ⟨y, d, e⟩
  · rw [e]; exact List.nil_suffix
  · rw [List.concat_eq_append] at e
    subst e
    obtain ⟨q, e2⟩ := hr
    rw [← List.append_assoc] at e2
    obtain ⟨e3, e4⟩ := List.append_inj' e2 rfl
    have hyz : y <:+ longT A z := longT_longest A z y ⟨q, e3⟩ (hp y d hm)
    refine longT_longest A _ _ ?_ hm
    obtain ⟨q2, e5⟩ := hyz
    exact ⟨q2, by rw [← List.append_assoc, e5, e4]⟩

/-- By the links: the longest end of z that goes on by c. -/
theorem longT_end (A : List (List Nat)) (z : List Nat) (c : Nat) : longT A (z ++ [c]) = endT A c z := by
  induction z with
  | nil =>
    show longT A [c] = _
    rw [longT, endT]
    split
    · rfl
    · rfl
  | cons d t ih =>
    show longT A (d :: (t ++ [c])) = _
    rw [longT, endT]
    show (if d :: (t ++ [c]) ∈ A then _ else _) = if d :: (t ++ [c]) ∈ A then _ else _
    split
    · rfl
    · exact ih

theorem longT_self (A : List (List Nat)) (z : List Nat) (h : z ∈ A) : longT A z = z := longT_at A z h

/-- It hangs on the last bytes alone. -/
theorem longT_last (A : List (List Nat)) (h0 : [] ∈ A) (m : Nat) (hm : ∀ x ∈ A, x.length ≤ m) (a b : List Nat) (hb : m ≤ b.length) : longT A (a ++ b) = longT A b := by
  refine longT_is A _ _ ((longT_suffix A b).trans (List.suffix_append a b)) (longT_mem A h0 b) (fun r hr hr2 => ?_) h0
  refine longT_longest A b r ?_ hr2
  rcases List.suffix_or_suffix_of_suffix hr (List.suffix_append a b) with h | h
  · exact h
  · have h1 := h.length_le
    have h2 := hm r hr2
    have : b = r := h.eq_of_length (by omega)
    rw [this]
    exact List.suffix_refl _

/-- All ends of z that are phrases, the longest first. -/
def endsT (P : List (List Nat)) : List Nat → List (List Nat)
  | [] => []
  | c :: t => if c :: t ∈ P then (c :: t) :: endsT P t else endsT P t

theorem endsT_mem (P : List (List Nat)) (z s : List Nat) : s ∈ endsT P z ↔ s <:+ z ∧ s ∈ P ∧ s ≠ [] := by
  induction z with
  | nil =>
    constructor
    · intro h; cases h
    · rintro ⟨h1, _, h3⟩; exact absurd (List.suffix_nil.1 h1) h3
  | cons c t ih =>
    rw [endsT]
    split
    · rename_i hm
      rw [List.mem_cons, ih, List.suffix_cons_iff]
      constructor
      · rintro (rfl | ⟨h1, h2, h3⟩)
        · exact ⟨.inl rfl, hm, by simp⟩
        · exact ⟨.inr h1, h2, h3⟩
      · rintro ⟨h1 | h1, h2, h3⟩
        · exact .inl h1
        · exact .inr ⟨h1, h2, h3⟩
    · rename_i hm
      rw [ih, List.suffix_cons_iff]
      constructor
      · rintro ⟨h1, h2, h3⟩; exact ⟨.inr h1, h2, h3⟩
      · rintro ⟨h1 | h1, h2, h3⟩
        · exact absurd (h1 ▸ h2) hm
        · exact ⟨h1, h2, h3⟩

/-- They are those of the longest end that is a beginning. -/
theorem endsT_long (A P : List (List Nat)) (hP : ∀ s ∈ P, s ∈ A) (z : List Nat) : endsT P z = endsT P (longT A z) := by
  induction z with
  | nil => rfl
  | cons c t ih =>
    rw [longT]
    split
    · rfl
    · rename_i hn
      rw [endsT, if_neg (fun h => hn (hP _ h))]
      exact ih

/-- The text itself, and then by where phrases end, too. -/
theorem endsT_out (P : List (List Nat)) (h0 : [] ∉ P) (z : List Nat) : endsT P z = (if z ∈ P then [z] else []) ++ (match outT P z with | none => [] | some s => endsT P s) := by
  have key : ∀ t : List Nat, endsT P t = match (if t ∈ P then some t else outT P t) with | none => [] | some s => endsT P s := by
    intro t
    induction t with
    | nil => rw [if_neg h0]; rfl
    | cons d u ih =>
      by_cases hm : d :: u ∈ P
      · rw [if_pos hm]
      · rw [if_neg hm, endsT, if_neg hm, outT]
        exact ih
  cases z with
  | nil => rw [if_neg h0]; rfl
  | cons c t =>
    rw [outT, ← key t, endsT]
    split <;> rfl

theorem endsT_last (P : List (List Nat)) (m : Nat) (hm : ∀ x ∈ P, x.length ≤ m) (a b : List Nat) (hb : m ≤ b.length) : endsT P (a ++ b) = endsT P b := by
  induction a with
  | nil => rfl
  | cons c t ih =>
    show endsT P (c :: (t ++ b)) = _
    rw [endsT, if_neg (fun h => by have := hm _ h; simp at this; omega)]
    exact ih

theorem endsT_length (P : List (List Nat)) (z : List Nat) : (endsT P z).length ≤ z.length := by
  induction z with
  | nil => exact Nat.le_refl _
  | cons c t ih =>
    rw [endsT]
    split
    · simp only [List.length_cons]; omega
    · simp only [List.length_cons]; omega

/-- The hits of bytes b behind bytes z, of which at are counted: where each ends, and which phrase it is. -/
def hitsT (P : List (List Nat)) (at0 : Nat) (z : List Nat) : List Nat → List (Nat × Nat)
  | [] => []
  | c :: b => (endsT P (z ++ [c])).map (fun y => (at0 + 1, P.idxOf y)) ++ hitsT P (at0 + 1) (z ++ [c]) b

theorem hitsT_append (P : List (List Nat)) (a b : List Nat) : ∀ (at0 : Nat) (z : List Nat), hitsT P at0 z (a ++ b) = hitsT P at0 z a ++ hitsT P (at0 + a.length) (z ++ a) b := by
  induction a with
  | nil => intro at0 z; simp [hitsT]
  | cons c a ih =>
    intro at0 z
    show hitsT P at0 z (c :: (a ++ b)) = _
    rw [hitsT, hitsT, ih, List.append_assoc, List.length_cons, List.append_assoc, show at0 + 1 + a.length = at0 + (a.length + 1) by omega]
    rfl

/-- They hang on the longest end that is a beginning alone. -/
theorem hitsT_long (A P : List (List Nat)) (h0 : [] ∈ A) (hp : ∀ s c, s ++ [c] ∈ A → s ∈ A) (hP : ∀ s ∈ P, s ∈ A) (b : List Nat) : ∀ (at0 : Nat) (z z' : List Nat), longT A z = longT A z' → hitsT P at0 z b = hitsT P at0 z' b := by
  induction b with
  | nil => intro _ _ _ _; rfl
  | cons c b ih =>
    intro at0 z z' h
    have h2 : longT A (z ++ [c]) = longT A (z' ++ [c]) := by rw [longT_snoc A h0 hp z, longT_snoc A h0 hp z', h]
    rw [hitsT, hitsT, ih (at0 + 1) _ _ h2, endsT_long A P hP (z ++ [c]), endsT_long A P hP (z' ++ [c]), h2]
end Go.Proofs.Ytfeibhdnmfiflaa
