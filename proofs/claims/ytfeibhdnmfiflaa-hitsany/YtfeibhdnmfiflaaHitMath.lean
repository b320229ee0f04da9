/-
  Hits of bytes: where each lies, in which order they come, how many there are. No Go here: lists of numbers alone.
-/
import Derived.Test.YtfeibhdnmfiflaaScanMath
namespace Go.Proofs.Ytfeibhdnmfiflaa

/-- Each hit is a phrase that ends there. -/
theorem hitsT_mem (P : List (List Nat)) (b : List Nat) : ∀ (at0 : Nat) (z : List Nat) (h : Nat × Nat), h ∈ hitsT P at0 z b → ∃ n y, n < b.length ∧ h = (at0 + n + 1, P.idxOf y) ∧ y ∈ P ∧ y ≠ [] ∧ y <:+ z ++ b.take (n + 1) := by
  induction b with
  | nil => intro _ _ _ h; cases h
  | cons c b ih =>
    intro at0 z h hm
    rw [hitsT, List.mem_append] at hm
    rcases hm with hm | hm
    · obtain ⟨y, hy, e⟩ := List.mem_map.1 hm
      obtain ⟨h1, h2, h3⟩ := (endsT_mem P _ y).1 hy
      exact ⟨0, y, by simp, e.symm, h2, h3, by simpa using h1⟩
    · obtain ⟨n, y, h1, h2, h3, h4, h5⟩ := ih _ _ h hm
      refine ⟨n + 1, y, by simp; omega, by rw [h2]; congr 1; omega, h3, h4, ?_⟩
      rw [List.append_assoc] at h5
      exact h5

/-- Of two hits the latter one ends later, or is shorter. -/
def laterT (P : List (List Nat)) (x y : Nat × Nat) : Prop := x.1 < y.1 ∨ x.1 = y.1 ∧ (P.getD y.2 []).length < (P.getD x.2 []).length

theorem endsT_falls (P : List (List Nat)) (z : List Nat) : (endsT P z).Pairwise (fun x y => y.length < x.length) := by
  induction z with
  | nil => exact List.Pairwise.nil
  | cons c t ih =>
    rw [endsT]
    split
    · rw [List.pairwise_cons]
      refine ⟨fun y hy => ?_, ih⟩
      have := ((endsT_mem P t y).1 hy).1.length_le
      simp only [List.length_cons]
      omega
    · exact ih

theorem getD_idx {P : List (List Nat)} {y : List Nat} (h : y ∈ P) : P.getD (P.idxOf y) [] = y := by
  have h1 : P.idxOf y < P.length := List.idxOf_lt_length_of_mem h
  simp [List.getD, List.getElem?_eq_getElem h1, List.getElem_idxOf]

theorem hitsT_falls (P : List (List Nat)) (b : List Nat) : ∀ (at0 : Nat) (z : List Nat), (hitsT P at0 z b).Pairwise (laterT P) := by
  induction b with
  | nil => intro _ _; exact List.Pairwise.nil
  | cons c b ih =>
    intro at0 z
    rw [hitsT, List.pairwise_append]
    refine ⟨?_, ih _ _, ?_⟩
    · rw [List.pairwise_map]
      refine List.Pairwise.imp_of_mem (fun {x y} hx hy hxy => ?_) (endsT_falls P (z ++ [c]))
      refine .inr ⟨rfl, ?_⟩
      rw [getD_idx ((endsT_mem P _ x).1 hx).2.1, getD_idx ((endsT_mem P _ y).1 hy).2.1]
      exact hxy
    · intro x hx y hy
      obtain ⟨u, _, rfl⟩ := List.mem_map.1 hx
      obtain ⟨n, v, _, rfl, _⟩ := hitsT_mem P b _ _ y hy
      refine .inl ?_
      show at0 + 1 < at0 + 1 + n + 1
      omega

theorem endsT_few (P : List (List Nat)) (m : Nat) (hm : ∀ x ∈ P, x.length ≤ m) (z : List Nat) : (endsT P z).length ≤ m := by
  rcases Nat.lt_or_ge z.length m with h | h
  · have := endsT_length P z; omega
  · have e : z = z.take (z.length - m) ++ z.drop (z.length - m) := (List.take_append_drop _ _).symm
    rw [e, endsT_last P m hm _ _ (by rw [List.length_drop]; omega)]
    have := endsT_length P (z.drop (z.length - m))
    rw [List.length_drop] at this
    omega

/-- How many phrases stand at places of b. -/
def cntT (P : List (List Nat)) (b : List Nat) : Nat := ((List.range b.length).map (fun i => (P.filter (fun s => decide (s <+: b.drop i))).length)).sum

theorem endsT_count (P : List (List Nat)) (z : List Nat) : (endsT P z).length = ((List.range z.length).map (fun i => if z.drop i ∈ P then 1 else 0)).sum := by
  induction z with
  | nil => rfl
  | cons c t ih =>
    rw [endsT, List.length_cons, List.range_succ_eq_map, List.map_cons, List.map_map, List.sum_cons, List.drop_zero]
    have e : (fun i => if (c :: t).drop i ∈ P then 1 else 0) ∘ Nat.succ = fun i => if t.drop i ∈ P then 1 else 0 := by
      funext i
      simp
    rw [e, ← ih]
    split
    · rw [List.length_cons]; omega
    · omega

theorem prefix_snoc (s z : List Nat) (c : Nat) : s <+: z ++ [c] ↔ s <+: z ∨ s = z ++ [c] := by
  constructor
  · rintro ⟨r, e⟩
    rcases List.eq_nil_or_concat r with h | ⟨q, d, h⟩
    · rw [h, List.append_nil] at e; exact .inr e
    · rw [h, List.concat_eq_append, ← List.append_assoc] at e
      exact .inl ⟨q, (List.append_inj' e rfl).1⟩
  · rintro (h | h)
    · exact h.trans (List.prefix_append z [c])
    · rw [h]; exact List.prefix_refl _

theorem filter_or (P : List (List Nat)) (hP : P.Nodup) (p : List Nat → Bool) (x : List Nat) (hx : p x = false) : (P.filter (fun s => p s || decide (s = x))).length = (P.filter p).length + (if x ∈ P then 1 else 0) := by
  induction P with
  | nil => rfl
  | cons a P ih =>
    unfold List.Nodup at hP
    rw [List.pairwise_cons] at hP
    have hi := ih hP.2
    by_cases ha : a = x
    · subst ha
      have hn : a ∉ P := fun h => hP.1 a h rfl
      rw [if_neg hn] at hi
      rw [List.filter_cons_of_pos (by simp), List.filter_cons_of_neg (by simp [hx]), List.length_cons, hi, if_pos (by simp)]
    · have hm : (x ∈ a :: P) ↔ x ∈ P := by
        rw [List.mem_cons]
        exact ⟨fun h => h.elim (fun e => absurd e.symm ha) id, .inr⟩
      by_cases hpa : p a = true
      · rw [List.filter_cons_of_pos (by simp [hpa]), List.filter_cons_of_pos hpa, List.length_cons, List.length_cons, hi]
        simp only [hm]
        omega
      · rw [List.filter_cons_of_neg (by simp [hpa, ha]), List.filter_cons_of_neg hpa, hi]
        simp only [hm]

theorem sum_add (f g : Nat → Nat) (l : List Nat) : (l.map (fun i => f i + g i)).sum = (l.map f).sum + (l.map g).sum := by
  induction l with
  | nil => rfl
  | cons a l ih => simp only [List.map_cons, List.sum_cons, ih]; omega

theorem cntT_snoc (P : List (List Nat)) (hP : P.Nodup) (h0 : [] ∉ P) (b : List Nat) (c : Nat) : cntT P (b ++ [c]) = cntT P b + (endsT P (b ++ [c])).length := by
  unfold cntT
  rw [endsT_count, List.length_append, List.length_singleton]
  have h1 : ∀ i, i ∈ List.range (b.length + 1) → (P.filter (fun s => decide (s <+: (b ++ [c]).drop i))).length = (P.filter (fun s => decide (s <+: b.drop i))).length + (if (b ++ [c]).drop i ∈ P then 1 else 0) := by
    intro i hi
    have hi2 : i ≤ b.length := by have := List.mem_range.1 hi; omega
    have e : (b ++ [c]).drop i = b.drop i ++ [c] := by rw [List.drop_append_of_le_length hi2]
    rw [e]
    have e2 : (fun s : List Nat => decide (s <+: b.drop i ++ [c])) = fun s => (decide (s <+: b.drop i) || decide (s = b.drop i ++ [c])) := by
      funext s
      rw [Bool.eq_iff_iff]
      simp [prefix_snoc]
    rw [e2, filter_or P hP (fun s => decide (s <+: b.drop i)) _ (decide_eq_false (fun h => by have := h.length_le; simp at this; omega))]
  rw [List.map_congr_left h1, sum_add]
  congr 1
  rw [List.range_succ, List.map_append, List.sum_append]
  have h2 : (P.filter (fun s => decide (s <+: b.drop b.length))).length = 0 := by
    rw [List.length_eq_zero_iff, List.filter_eq_nil_iff]
    intro s hs h
    rw [List.drop_length] at h
    have h3 := List.prefix_nil.1 (of_decide_eq_true h)
    exact h0 (h3 ▸ hs)
  rw [List.map_singleton, h2, List.sum_singleton, Nat.add_zero]

theorem hitsT_count (P : List (List Nat)) (hP : P.Nodup) (h0 : [] ∉ P) (b : List Nat) : (hitsT P 0 [] b).length = cntT P b := by
  have key : ∀ n, n ≤ b.length → (hitsT P 0 [] (b.take n)).length = cntT P (b.take n) := by
    intro n
    induction n with
    | zero => intro _; rfl
    | succ n ih =>
      intro hn
      rw [List.take_succ_eq_append_getElem (by omega), hitsT_append, List.length_append, ih (by omega), cntT_snoc P hP h0]
      congr 1
      simp [hitsT]
  have := key b.length (Nat.le_refl _)
  rw [List.take_length] at this
  exact this

/-- Hits as numbers of Go. -/
def asHits (l : List (Nat × Nat)) : List (Int × Int) := l.map (fun h => ((h.1 : Int), (h.2 : Int)))
theorem asHits_append (a b : List (Nat × Nat)) : asHits (a ++ b) = asHits a ++ asHits b := by simp [asHits]
theorem asHits_length (a : List (Nat × Nat)) : (asHits a).length = a.length := by simp [asHits]

theorem hitsT_few (P : List (List Nat)) (m : Nat) (hm : ∀ x ∈ P, x.length ≤ m) (b : List Nat) : ∀ (at0 : Nat) (z : List Nat), (hitsT P at0 z b).length ≤ b.length * m := by
  induction b with
  | nil => intro _ _; simp [hitsT]
  | cons c b ih =>
    intro at0 z
    rw [hitsT, List.length_append, List.length_map, List.length_cons, Nat.succ_mul]
    have h1 := ih (at0 + 1) (z ++ [c])
    have h2 := endsT_few P m hm (z ++ [c])
    omega

end Go.Proofs.Ytfeibhdnmfiflaa
