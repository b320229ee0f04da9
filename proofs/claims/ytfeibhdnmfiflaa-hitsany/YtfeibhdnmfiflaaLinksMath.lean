/-
  Ends of beginnings: the longest proper end that is a beginning, the longest that is a phrase; the order by length. No Go here: lists of numbers alone.
-/
import Derived.Test.YtfeibhdnmfiflaaTrieMath
namespace Go.Proofs.Ytfeibhdnmfiflaa

/-- The longest proper end of x that is among A (the empty one, if none). -/
def failT (A : List (List Nat)) : List Nat → List Nat
  | [] => []
  | _ :: t => if t ∈ A then t else failT A t

/-- The longest proper end of x that is among P, if there is one. -/
def outT (P : List (List Nat)) : List Nat → Option (List Nat)
  | [] => none
  | _ :: t => if t ∈ P then some t else outT P t

theorem failT_suffix (A : List (List Nat)) (x : List Nat) : failT A x <:+ x := by
  induction x with
  | nil => exact List.suffix_refl _
  | cons c t ih =>
    rw [failT]
    split
    · exact List.suffix_cons c t
    · exact ih.trans (List.suffix_cons c t)

theorem failT_short (A : List (List Nat)) (x : List Nat) (h : x ≠ []) : (failT A x).length < x.length := by
  cases x with
  | nil => exact absurd rfl h
  | cons c t =>
    rw [failT]
    split
    · simp
    · have := (failT_suffix A t).length_le
      simp only [List.length_cons]
      omega

theorem failT_mem (A : List (List Nat)) (h : [] ∈ A) (x : List Nat) : failT A x ∈ A := by
  induction x with
  | nil => exact h
  | cons c t ih =>
    rw [failT]
    split
    · assumption
    · exact ih

/-- None that is longer is among them. -/
theorem failT_longest (A : List (List Nat)) (x s : List Nat) (hs : s <:+ x) (hl : s.length < x.length) (hm : s ∈ A) : s.length ≤ (failT A x).length := by
  induction x with
  | nil => simp at hl
  | cons c t ih =>
    have hst : s <:+ t := by
      rcases List.suffix_cons_iff.1 hs with e | h
      · rw [e] at hl; omega
      · exact h
    rw [failT]
    split
    · exact hst.length_le
    · rename_i hn
      have hne : s ≠ t := fun e => hn (e ▸ hm)
      have hlt : s.length < t.length := by
        rcases Nat.lt_or_ge s.length t.length with h | h
        · exact h
        · exact absurd (hst.eq_of_length_le h) hne
      exact ih hst hlt

/-- What marks it out. -/
theorem failT_is (A : List (List Nat)) (x s : List Nat) (h0 : [] ∈ A) (hx : x ≠ []) (hs : s <:+ x) (hl : s.length < x.length) (hm : s ∈ A) (hb : ∀ r, r <:+ x → r.length < x.length → r ∈ A → r.length ≤ s.length) : failT A x = s := by
  have h1 := failT_longest A x s hs hl hm
  have h2 := hb (failT A x) (failT_suffix A x) (failT_short A x hx) (failT_mem A h0 x)
  exact List.IsSuffix.eq_of_length ((List.suffix_or_suffix_of_suffix (failT_suffix A x) hs).elim (fun h => h) (fun h => by
    have := h.eq_of_length (by omega)
    rw [this]
    exact List.suffix_refl _)) (by omega)

theorem outT_none (P : List (List Nat)) (x : List Nat) (h : outT P x = none) : ∀ s, s <:+ x → s.length < x.length → s ∉ P := by
  induction x with
  | nil => intro s _ hl; simp at hl
  | cons c t ih =>
    rw [outT] at h
    split at h
    · cases h
    · rename_i hn
      intro s hs hl hm
      rcases List.suffix_cons_iff.1 hs with e | hst
      · rw [e] at hl; omega
      · have hne : s ≠ t := fun e => hn (e ▸ hm)
        have hlt : s.length < t.length := by
          rcases Nat.lt_or_ge s.length t.length with h | h
          · exact h
          · exact absurd (hst.eq_of_length_le h) hne
        exact ih h s hst hlt hm

theorem outT_some (P : List (List Nat)) (x s : List Nat) (h : outT P x = some s) : s <:+ x ∧ s.length < x.length ∧ s ∈ P ∧ ∀ r, r <:+ x → r.length < x.length → r ∈ P → r.length ≤ s.length := by
  induction x with
  | nil => cases h
  | cons c t ih =>
    rw [outT] at h
    split at h
    · rename_i hm
      injection h with h
      subst h
      refine ⟨List.suffix_cons c t, by simp, hm, fun r hr hl _ => ?_⟩
      simp only [List.length_cons] at hl
      omega
    · rename_i hn
      obtain ⟨h1, h2, h3, h4⟩ := ih h
      refine ⟨h1.trans (List.suffix_cons c t), by simp only [List.length_cons]; omega, h3, fun r hr hl hm => ?_⟩
      rcases List.suffix_cons_iff.1 hr with e | hrt
      · rw [e] at hl; omega
      · have hne : r ≠ t := fun e => hn (e ▸ hm)
        have hlt : r.length < t.length := by
          rcases Nat.lt_or_ge r.length t.length with h | h
          · exact h
          · exact absurd (hrt.eq_of_length_le h) hne
        exact h4 r hrt hlt hm

/-- By the links one comes to it: the first phrase on the way. -/
theorem outT_step (A P : List (List Nat)) (hP : ∀ s ∈ P, s ∈ A) (x : List Nat) : outT P x = if x = [] then none else if failT A x ∈ P then some (failT A x) else outT P (failT A x) := by
  induction x with
  | nil => simp [outT]
  | cons c t ih =>
    rw [if_neg (by simp), outT, failT]
    by_cases ht : t ∈ A
    · rw [if_pos ht]
    · rw [if_neg ht, if_neg (fun h => ht (hP t h)), ih]
      by_cases h0 : t = []
      · subst h0
        rw [if_pos rfl, failT, if_neg (fun h => ht (hP _ h)), outT]
      · rw [if_neg h0]

/-- The way of one who goes on by a byte: the longest proper end of x and c is an end of x, and c. -/
theorem snoc_end (x : List Nat) (c : Nat) (s : List Nat) (hs : s ++ [c] <:+ x ++ [c]) : s <:+ x := by
  obtain ⟨r, e⟩ := hs
  rw [← List.append_assoc] at e
  exact ⟨r, (List.append_inj' e rfl).1⟩

/-- The longest end of z that goes on by c within A, and c; the empty one, if none does. -/
def endT (A : List (List Nat)) (c : Nat) : List Nat → List Nat
  | [] => if [c] ∈ A then [c] else []
  | d :: t => if (d :: t) ++ [c] ∈ A then (d :: t) ++ [c] else endT A c t

/-- The longest proper end of a beginning that is one byte longer. -/
theorem failT_snoc (A : List (List Nat)) (h0 : [] ∈ A) (d : Nat) (t : List Nat) (c : Nat) : failT A (d :: t ++ [c]) = endT A c t := by
  induction t generalizing d with
  | nil =>
    show failT A (d :: [c]) = _
    rw [failT, endT]
    split
    · rfl
    · show failT A (c :: []) = []
      rw [failT, if_pos h0]
  | cons e t ih =>
    show failT A (d :: (e :: t ++ [c])) = _
    rw [failT, endT]
    split
    · rfl
    · exact ih e

theorem failT_one (A : List (List Nat)) (h0 : [] ∈ A) (c : Nat) : failT A [c] = [] := by
  rw [failT, if_pos h0]

/-- Where z does not go on, one goes on from its longest proper end. -/
theorem endT_skip (A : List (List Nat)) (h0 : [] ∈ A) (hp : ∀ s c, s ++ [c] ∈ A → s ∈ A) (c : Nat) (z : List Nat) (hz : z ≠ []) (hn : z ++ [c] ∉ A) : endT A c z = endT A c (failT A z) := by
  induction z with
  | nil => exact absurd rfl hz
  | cons d t ih =>
    rw [endT, if_neg hn, failT]
    by_cases ht : t ∈ A
    · rw [if_pos ht]
    · rw [if_neg ht]
      have ht0 : t ≠ [] := fun e => ht (e ▸ h0)
      exact ih ht0 (fun h => ht (hp t c h))

theorem endT_at (A : List (List Nat)) (c : Nat) (z : List Nat) (h : z ++ [c] ∈ A) : endT A c z = z ++ [c] := by
  cases z with
  | nil => rw [endT, if_pos (by simpa using h)]; rfl
  | cons d t => rw [endT, if_pos h]

/-- The longest proper end of x and c, by that of x. -/
theorem failT_by (A : List (List Nat)) (h0 : [] ∈ A) (hp : ∀ s c, s ++ [c] ∈ A → s ∈ A) (x : List Nat) (hx : x ≠ []) (c : Nat) : failT A (x ++ [c]) = endT A c (failT A x) := by
  cases x with
  | nil => exact absurd rfl hx
  | cons d t =>
    rw [failT_snoc A h0, failT]
    by_cases ht : t ∈ A
    · rw [if_pos ht]
    · rw [if_neg ht]
      have ht0 : t ≠ [] := fun e => ht (e ▸ h0)
      exact endT_skip A h0 hp c t ht0 (fun h => ht (hp t c h))

/-- All numbers of beginnings, by length, then by number. -/
def orderN (A : List (List Nat)) (most : Nat) : List Nat := (List.range (most + 1)).flatMap (fun n => (List.range A.length).filter (fun i => decide ((A.getD i []).length = n)))

theorem orderN_mem (A : List (List Nat)) (most : Nat) (hm : ∀ x ∈ A, x.length ≤ most) (i : Nat) : i ∈ orderN A most ↔ i < A.length := by
  simp only [orderN, List.mem_flatMap, List.mem_range, List.mem_filter, decide_eq_true_eq]
  constructor
  · rintro ⟨n, _, h, _⟩
    exact h
  · intro h
    have h2 : A.getD i [] = A[i]'h := by simp [List.getD, h]
    exact ⟨(A.getD i []).length, by rw [h2]; have := hm _ (List.getElem_mem h); omega, h, rfl⟩

theorem orderN_once (A : List (List Nat)) (most : Nat) : (orderN A most).Nodup := by
  unfold orderN List.Nodup
  rw [List.pairwise_flatMap]
  refine ⟨fun n _ => List.Pairwise.filter _ (List.pairwise_lt_range.imp (fun h => Nat.ne_of_lt h)), ?_⟩
  refine List.pairwise_lt_range.imp (fun {a b} hab => ?_)
  intro x hx y hy e
  simp only [List.mem_filter, decide_eq_true_eq] at hx hy
  subst e
  omega
end Go.Proofs.Ytfeibhdnmfiflaa
