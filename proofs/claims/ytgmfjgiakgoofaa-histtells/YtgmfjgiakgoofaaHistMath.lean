/-
  Counting: how often each of n numbers stands in a list. No Go here: lists of numbers alone.
-/
import Derived.Test.YtgmfjgiakgoofaaTexts
namespace Go.Proofs.Ytgmfjgiakgoofaa

/-- How often each of the numbers below n stands in a list. -/
def cntH (n : Nat) (xs : List Int) : List Nat := (List.range n).map (fun t : Nat => xs.count (t : Int))
theorem cntH_length (n : Nat) (xs : List Int) : (cntH n xs).length = n := by simp [cntH]
theorem cntH_at (n : Nat) (xs : List Int) (t : Nat) (h : t < n) : (cntH n xs)[t]'(by rw [cntH_length]; exact h) = xs.count (t : Int) := by simp [cntH]
theorem cntH_nil (n : Nat) : cntH n [] = List.replicate n 0 := by
  refine List.ext_getElem (by rw [cntH_length, List.length_replicate]) (fun i h1 h2 => ?_)
  rw [cntH_length] at h1
  rw [cntH_at n [] i h1]
  simp

/-- One more. -/
theorem cntH_snoc (n : Nat) (xs : List Int) (t : Nat) : cntH n (xs ++ [(t : Int)]) = (cntH n xs).set t (xs.count (t : Int) + 1) := by
  refine List.ext_getElem (by rw [cntH_length, List.length_set, cntH_length]) (fun i h1 h2 => ?_)
  rw [cntH_length] at h1
  rw [cntH_at n _ i h1, List.getElem_set, List.count_append, List.count_singleton]
  by_cases e : t = i
  · subst e
    simp
  · rw [if_neg e, cntH_at n xs i h1]
    have h3 : ((t : Int) == (i : Int)) = false := by rw [beq_eq_false_iff_ne]; omega
    rw [h3]
    simp

/-- The order is nothing to it. -/
theorem cntH_turn (n : Nat) (xs ys : List Int) : cntH n (xs ++ ys) = cntH n (ys ++ xs) := by
  unfold cntH
  refine List.map_congr_left (fun t _ => ?_)
  rw [List.count_append, List.count_append, Nat.add_comm]

theorem cntH_le (n : Nat) (xs : List Int) : ∀ c ∈ cntH n xs, c ≤ xs.length := by
  intro c hc
  obtain ⟨t, _, rfl⟩ := List.mem_map.1 hc
  exact List.count_le_length

/-- May each of them be counted? -/
def inH (n : Nat) (xs : List Int) : Prop := ∀ x ∈ xs, 0 ≤ x ∧ x < (n : Int)
instance (n : Nat) (xs : List Int) : Decidable (inH n xs) := by unfold inH; infer_instance
theorem inH_nil (n : Nat) : inH n [] := fun x hx => by cases hx
theorem inH_append (n : Nat) (xs ys : List Int) : inH n (xs ++ ys) ↔ inH n xs ∧ inH n ys := by
  unfold inH
  constructor
  · intro h
    exact ⟨fun x hx => h x (List.mem_append_left _ hx), fun x hx => h x (List.mem_append_right _ hx)⟩
  · rintro ⟨h1, h2⟩ x hx
    rcases List.mem_append.1 hx with hx | hx
    · exact h1 x hx
    · exact h2 x hx
theorem inH_turn (n : Nat) (xs ys : List Int) : inH n (xs ++ ys) ↔ inH n (ys ++ xs) := by rw [inH_append, inH_append]; exact And.comm

theorem sum_set (l : List Nat) (t : Nat) (h : t < l.length) (c : Nat) (hc : c = l[t]'h + 1) : (l.set t c).sum = l.sum + 1 := by
  induction l generalizing t with
  | nil => simp at h
  | cons a l ih =>
    cases t with
    | zero =>
      simp only [List.set_cons_zero, List.sum_cons]
      simp only [List.getElem_cons_zero] at hc
      omega
    | succ t =>
      simp only [List.set_cons_succ, List.sum_cons]
      rw [ih t (by simpa using h) (by simpa using hc)]
      omega

/-- All together they are as many as there are. -/
theorem cntH_sum (n : Nat) (xs : List Int) (h : inH n xs) : (cntH n xs).sum = xs.length := by
  have key : ∀ (ys zs : List Int), xs = ys ++ zs → (cntH n ys).sum = ys.length := by
    intro ys
    generalize hk : ys.length = k
    induction k generalizing ys with
    | zero =>
      intro zs _
      have : ys = [] := List.eq_nil_of_length_eq_zero hk
      subst this
      rw [cntH_nil]
      simp
    | succ k ih =>
      intro zs e
      obtain ⟨as, b, rfl⟩ : ∃ as b, ys = as ++ [b] := by
        have hne : ys ≠ [] := by intro h0; rw [h0] at hk; simp at hk
        exact ⟨ys.dropLast, ys.getLast hne, (List.dropLast_concat_getLast hne).symm⟩
      have hb := h b (by rw [e]; simp)
      obtain ⟨t, rfl⟩ : ∃ t : Nat, b = (t : Int) := ⟨b.toNat, by omega⟩
      have ht : t < n := by omega
      have h1 := ih as (by simpa using hk) ([(t : Int)] ++ zs) (by rw [e]; simp)
      rw [cntH_snoc n as t, sum_set _ t (by rw [cntH_length]; exact ht) _ (by rw [cntH_at n as t ht]), h1]
  exact key xs [] (by simp)

/-- How many stand there at all. -/
def useH (l : List Nat) : Nat := l.countP (fun c => decide (0 < c))
theorem useH_snoc (l : List Nat) (c : Nat) : useH (l ++ [c]) = useH l + (if 0 < c then 1 else 0) := by
  unfold useH
  rw [List.countP_append, List.countP_singleton]
  by_cases h : 0 < c
  · simp [h]
  · simp [h]
theorem useH_one (n t : Nat) (h : t < n) : useH (cntH n [(t : Int)]) = 1 := by
  unfold useH cntH
  rw [List.countP_map]
  have e : ∀ m : Nat, (List.range m).countP ((fun c => decide (0 < c)) ∘ fun i : Nat => [(t : Int)].count (i : Int)) = if t < m then 1 else 0 := by
    intro m
    induction m with
    | zero => simp
    | succ m ih =>
      rw [List.range_succ, List.countP_append, ih, List.countP_singleton]
      simp only [Function.comp, List.count_singleton]
      by_cases h1 : t = m
      · subst h1
        simp
      · have h2 : ((t : Int) == (m : Int)) = false := by rw [beq_eq_false_iff_ne]; omega
        rw [h2]
        by_cases h3 : t < m
        · rw [if_pos h3, if_pos (show t < m + 1 by omega)]; simp
        · rw [if_neg h3, if_neg (show ¬ t < m + 1 by omega)]; simp
  rw [e n, if_pos h]

theorem inH_take_succ (n : Nat) (xs : List Int) (i : Nat) (h : i < xs.length) : inH n (xs.take (i + 1)) ↔ inH n (xs.take i) ∧ (0 ≤ xs[i]'h ∧ xs[i]'h < (n : Int)) := by
  rw [List.take_succ_eq_append_getElem h, inH_append]
  refine and_congr_right (fun _ => ⟨fun h2 => h2 _ (List.mem_singleton.2 rfl), fun h2 x hx => ?_⟩)
  rw [List.mem_singleton.1 hx]
  exact h2
theorem inH_take (n : Nat) (xs : List Int) (i : Nat) (h : inH n xs) : inH n (xs.take i) := fun x hx => h x (List.mem_of_mem_take hx)
theorem not_inH (n : Nat) (xs : List Int) (i : Nat) (h : i < xs.length) (h2 : ¬ (0 ≤ xs[i]'h ∧ xs[i]'h < (n : Int))) : ¬ inH n xs := fun h3 => h2 (h3 _ (List.getElem_mem h))

/-- Counts as numbers of the program. -/
def natI (l : List Nat) : List Int := l.map (fun c : Nat => (c : Int))
theorem natI_length (l : List Nat) : (natI l).length = l.length := by simp [natI]
theorem natI_at (l : List Nat) (i : Nat) (h : i < l.length) : (natI l)[i]'(by rw [natI_length]; exact h) = (l[i]'h : Int) := by simp [natI]
theorem natI_set (l : List Nat) (i c : Nat) : (natI l).set i (c : Int) = natI (l.set i c) := by simp [natI, List.map_set]
theorem natI_inj (l m : List Nat) (h : natI l = natI m) : l = m := by
  have := congrArg (List.map Int.toNat) h
  simpa [natI, List.map_map, Function.comp_def] using this
theorem count_take_succ (n : Nat) (xs : List Int) (i : Nat) (h : i < xs.length) (t : Nat) (e : xs[i]'h = (t : Int)) : cntH n (xs.take (i + 1)) = (cntH n (xs.take i)).set t ((xs.take i).count (t : Int) + 1) := by
  rw [List.take_succ_eq_append_getElem h, e, cntH_snoc]
end Go.Proofs.Ytgmfjgiakgoofaa
