/-
  A numbered beginning's sons: the bytes by which it goes on, rising, and their numbers; what a new beginning turns of them. No Go here: lists of numbers alone.
-/
import Derived.Test.YtfeibhdnmfiflaaTrieMath
namespace Go.Proofs.Ytfeibhdnmfiflaa

/-- The bytes by which a beginning goes on, rising. -/
def byOf (A : List (List Nat)) (x : List Nat) : List Nat := (List.range 256).filter (fun c => decide (x ++ [c] ∈ A))

/-- The numbers of these sons. -/
def sonsOf (A : List (List Nat)) (x : List Nat) : List Nat := (byOf A x).map (fun c => A.idxOf (x ++ [c]))

theorem byOf_mem (A : List (List Nat)) (x : List Nat) (c : Nat) : c ∈ byOf A x ↔ c < 256 ∧ x ++ [c] ∈ A := by
  simp [byOf]

theorem byOf_rising (A : List (List Nat)) (x : List Nat) : (byOf A x).Pairwise (· < ·) := List.Pairwise.filter _ List.pairwise_lt_range

theorem byOf_length (A : List (List Nat)) (x : List Nat) : (byOf A x).length ≤ 256 := by
  have := List.length_filter_le (fun c => decide (x ++ [c] ∈ A)) (List.range 256)
  simpa [byOf] using this

theorem sonsOf_length (A : List (List Nat)) (x : List Nat) : (sonsOf A x).length = (byOf A x).length := by simp [sonsOf]

theorem byOf_byte (A : List (List Nat)) (x : List Nat) : ∀ c ∈ byOf A x, c < 256 := fun c hc => ((byOf_mem A x c).1 hc).1

/-- In a rising list: those below x come first. -/
theorem rising_split (l : List Nat) (h : l.Pairwise (· < ·)) (x : Nat) : l.take (l.countP (· < x)) = l.filter (· < x) ∧ l.drop (l.countP (· < x)) = l.filter (fun y => decide (x ≤ y)) := by
  induction l with
  | nil => simp
  | cons a l ih =>
    have h2 := List.pairwise_cons.1 h
    by_cases ha : a < x
    · have e : (a :: l).countP (· < x) = l.countP (· < x) + 1 := by simp [ha]
      have ih := ih h2.2
      rw [e, List.take_succ_cons, List.drop_succ_cons, ih.1, ih.2]
      simp [ha, Nat.not_le.2 ha]
    · have hall : ∀ y ∈ a :: l, ¬ y < x := by
        intro y hy
        rcases List.mem_cons.1 hy with rfl | hy
        · exact ha
        · have := h2.1 y hy
          omega
      have e : (a :: l).countP (· < x) = 0 := List.countP_eq_zero.2 (fun y hy => by simpa using hall y hy)
      rw [e, List.take_zero, List.drop_zero]
      constructor
      · symm
        rw [List.filter_eq_nil_iff]
        intro y hy
        simpa using hall y hy
      · symm
        rw [List.filter_eq_self]
        intro y hy
        have := hall y hy
        simp
        omega

/-- Where a number stands in a rising list. -/
theorem rising_at (l : List Nat) (h : l.Pairwise (· < ·)) (x : Nat) (hx : x ∈ l) : l[l.countP (· < x)]? = some x := by
  induction l with
  | nil => cases hx
  | cons a l ih =>
    have h2 := List.pairwise_cons.1 h
    rcases List.mem_cons.1 hx with rfl | hm
    · have e : (x :: l).countP (· < x) = 0 := List.countP_eq_zero.2 (fun y hy => by
        rcases List.mem_cons.1 hy with rfl | hy
        · simp
        · have := h2.1 y hy
          simp
          omega)
      rw [e]
      rfl
    · have ha := h2.1 x hm
      have e : (a :: l).countP (· < x) = l.countP (· < x) + 1 := by simp [ha]
      rw [e, List.getElem?_cons_succ]
      exact ih h2.2 hm

theorem range_split (c : Nat) (hc : c < 256) : List.range 256 = List.range c ++ c :: List.range' (c + 1) (255 - c) := by
  rw [List.range_eq_range', List.range_eq_range']
  have e1 : List.range' 0 256 = List.range' 0 c ++ List.range' c (256 - c) := by
    have := (List.range'_append (s := 0) (m := c) (n := 256 - c) (step := 1)).symm
    rw [show c + (256 - c) = 256 by omega] at this
    simpa using this
  rw [e1, show 256 - c = (255 - c) + 1 by omega, List.range'_succ]

theorem filter_more (p q : Nat → Bool) (c : Nat) (hc : c < 256) (hp : p c = false) (hq : q c = true) (hpq : ∀ d, d ≠ c → q d = p d) :
    (List.range 256).filter q = ((List.range 256).filter p).take (((List.range 256).filter p).countP (· < c)) ++ c :: ((List.range 256).filter p).drop (((List.range 256).filter p).countP (· < c)) := by
  have hs := rising_split ((List.range 256).filter p) (List.Pairwise.filter _ List.pairwise_lt_range) c
  rw [hs.1, hs.2, List.filter_filter, List.filter_filter, range_split c hc, List.filter_append, List.filter_append, List.filter_append, List.filter_cons, if_pos hq, List.filter_cons, if_neg (by simp), List.filter_cons, if_neg (by simp [hp])]
  have hl : ∀ d ∈ List.range c, d < c := fun d hd => List.mem_range.1 hd
  have hr : ∀ d ∈ List.range' (c + 1) (255 - c), c < d := fun d hd => by have := List.mem_range'_1.1 hd; omega
  have a1 : (List.range c).filter q = (List.range c).filter (fun a => decide (a < c) && p a) := List.filter_congr (fun d hd => by have := hl d hd; rw [hpq d (by omega)]; simp [this])
  have a2 : (List.range' (c + 1) (255 - c)).filter (fun a => decide (a < c) && p a) = [] := List.filter_eq_nil_iff.2 (fun d hd => by have := hr d hd; simp; omega)
  have a3 : (List.range c).filter (fun a => decide (c ≤ a) && p a) = [] := List.filter_eq_nil_iff.2 (fun d hd => by have := hl d hd; simp; omega)
  have a4 : (List.range' (c + 1) (255 - c)).filter q = (List.range' (c + 1) (255 - c)).filter (fun a => decide (c ≤ a) && p a) := List.filter_congr (fun d hd => by have := hr d hd; rw [hpq d (by omega)]; simp; omega)
  rw [a1, a2, a3, a4]
  simp

theorem snoc_inj {x y : List Nat} {c d : Nat} (h : x ++ [c] = y ++ [d]) : x = y ∧ c = d := by
  have := List.append_inj' h rfl
  exact ⟨this.1, by simpa using this.2⟩

/-- A new beginning: its father goes on by one byte more. -/
theorem byOf_new (A : List (List Nat)) (x : List Nat) (c : Nat) (hc : c < 256) (hn : x ++ [c] ∉ A) :
    byOf (A ++ [x ++ [c]]) x = (byOf A x).take ((byOf A x).countP (· < c)) ++ c :: (byOf A x).drop ((byOf A x).countP (· < c)) := by
  refine filter_more _ _ c hc (decide_eq_false hn) (decide_eq_true (by simp)) (fun d hd => ?_)
  have : x ++ [d] ∈ A ++ [x ++ [c]] ↔ x ++ [d] ∈ A := by
    rw [List.mem_append, List.mem_singleton]
    constructor
    · rintro (h | h)
      · exact h
      · exact absurd (snoc_inj h).2 hd
    · exact .inl
  rw [decide_eq_decide]
  exact this

/-- All others' are as they were. -/
theorem byOf_other (A : List (List Nat)) (x z : List Nat) (c : Nat) (hz : z ≠ x) : byOf (A ++ [x ++ [c]]) z = byOf A z := by
  unfold byOf
  apply List.filter_congr
  intro d _
  rw [decide_eq_decide, List.mem_append, List.mem_singleton]
  constructor
  · rintro (h | h)
    · exact h
    · exact absurd (snoc_inj h).1 hz
  · exact .inl

theorem idxOf_more (A : List (List Nat)) (x y : List Nat) (hx : x ∈ A) : (A ++ [y]).idxOf x = A.idxOf x := by
  rw [List.idxOf_append, if_pos hx]
theorem idxOf_new (A : List (List Nat)) (y : List Nat) (hy : y ∉ A) : (A ++ [y]).idxOf y = A.length := by
  rw [List.idxOf_append, if_neg hy]
  simp

theorem sonsOf_old (A : List (List Nat)) (x y : List Nat) (l : List Nat) (hl : ∀ c ∈ l, x ++ [c] ∈ A) : l.map (fun c => (A ++ [y]).idxOf (x ++ [c])) = l.map (fun c => A.idxOf (x ++ [c])) :=
  List.map_congr_left (fun c hc => idxOf_more A _ y (hl c hc))

theorem sonsOf_new (A : List (List Nat)) (x : List Nat) (c : Nat) (hc : c < 256) (hn : x ++ [c] ∉ A) :
    sonsOf (A ++ [x ++ [c]]) x = (sonsOf A x).take ((byOf A x).countP (· < c)) ++ A.length :: (sonsOf A x).drop ((byOf A x).countP (· < c)) := by
  unfold sonsOf
  rw [byOf_new A x c hc hn, List.map_append, List.map_cons, idxOf_new A _ hn,
    sonsOf_old A x _ _ (fun d hd => ((byOf_mem A x d).1 (List.mem_of_mem_take hd)).2),
    sonsOf_old A x _ _ (fun d hd => ((byOf_mem A x d).1 (List.mem_of_mem_drop hd)).2), List.map_take, List.map_drop]

theorem sonsOf_other (A : List (List Nat)) (x z : List Nat) (c : Nat) (hz : z ≠ x) : sonsOf (A ++ [x ++ [c]]) z = sonsOf A z := by
  unfold sonsOf
  rw [byOf_other A x z c hz, sonsOf_old A z _ _ (fun d hd => ((byOf_mem A z d).1 hd).2)]

/-- A beginning that is just new has no sons. -/
theorem Nodes.fresh {A : List (List Nat)} (h : Nodes A) {y : List Nat} (hy : y ∉ A) (d : Nat) : y ++ [d] ∉ A := by
  intro hm
  obtain ⟨i, hi, e⟩ := List.getElem_of_mem hm
  obtain ⟨j, _, hj⟩ := h.father i (y ++ [d]) (by rw [List.getElem?_eq_getElem hi, e]) (by simp)
  rw [List.dropLast_concat] at hj
  exact hy (List.mem_of_getElem? hj)

theorem byOf_fresh {A : List (List Nat)} (h : Nodes A) {x : List Nat} {c : Nat} (hy : x ++ [c] ∉ A) : byOf (A ++ [x ++ [c]]) (x ++ [c]) = [] := by
  rw [byOf_other A x _ c (by intro e; have := congrArg List.length e; simp at this)]
  unfold byOf
  rw [List.filter_eq_nil_iff]
  intro d _
  simpa using h.fresh hy d

/-- The son by a byte, where it is. -/
theorem sonsOf_at (A : List (List Nat)) (x : List Nat) (c : Nat) (hc : c < 256) (hm : x ++ [c] ∈ A) : (sonsOf A x)[(byOf A x).countP (· < c)]? = some (A.idxOf (x ++ [c])) := by
  unfold sonsOf
  rw [List.getElem?_map, rising_at _ (byOf_rising A x) c ((byOf_mem A x c).2 ⟨hc, hm⟩)]
  rfl

theorem countP_le (l : List Nat) (c : Nat) : l.countP (· < c) ≤ l.length := List.countP_le_length

theorem byOf_contains (A : List (List Nat)) (x : List Nat) (c : Nat) (hc : c < 256) : (byOf A x).contains c = decide (x ++ [c] ∈ A) := by
  rw [Bool.eq_iff_iff, List.contains_iff_mem, byOf_mem, decide_eq_true_eq]
  exact ⟨fun h => h.2, fun h => ⟨hc, h⟩⟩

theorem getD_at (l : List Nat) (i : Nat) (h : i < l.length) : l.getD i 0 = l[i] := by simp [List.getD, h]

/-- What a search by halves has found at its end. -/
theorem search_done (zs : List Nat) (h : zs.Pairwise (· < ·)) (i x : Nat) (hi : i ≤ zs.length) (h1 : ∀ j, j < i → zs.getD j 0 < x) (h2 : ∀ j, i ≤ j → j < zs.length → x ≤ zs.getD j 0) :
    zs.countP (· < x) = i ∧ zs.contains x = decide (i < zs.length ∧ zs.getD i 0 = x) := by
  have e : zs.countP (· < x) = i := by
    have hs := rising_split zs h x
    have l1 : ∀ j (hj : j < zs.length), j < zs.countP (· < x) → zs[j] < x := by
      intro j hj hjc
      have hm : zs[j] ∈ zs.take (zs.countP (· < x)) := by
        rw [List.mem_take_iff_getElem]
        exact ⟨j, by omega, rfl⟩
      rw [hs.1] at hm
      simpa using (List.mem_filter.1 hm).2
    have l2 : ∀ j (hj : j < zs.length), zs.countP (· < x) ≤ j → x ≤ zs[j] := by
      intro j hj hjc
      have hm : zs[j] ∈ zs.drop (zs.countP (· < x)) := by
        rw [List.mem_drop_iff_getElem]
        exact ⟨j - zs.countP (· < x), by omega, by congr 1; omega⟩
      rw [hs.2] at hm
      simpa using (List.mem_filter.1 hm).2
    have hc := countP_le zs x
    rcases Nat.lt_trichotomy (zs.countP (· < x)) i with hl | hl | hl
    · have a := h1 _ hl
      have b := l2 _ (Nat.lt_of_lt_of_le hl hi) (Nat.le_refl _)
      rw [getD_at _ _ (Nat.lt_of_lt_of_le hl hi)] at a
      omega
    · exact hl
    · have hi2 : i < zs.length := by omega
      have a := h2 i (Nat.le_refl _) hi2
      have b := l1 i hi2 hl
      rw [getD_at _ _ hi2] at a
      omega
  refine ⟨e, ?_⟩
  rw [Bool.eq_iff_iff, List.contains_iff_mem, decide_eq_true_eq]
  constructor
  · intro hm
    have := rising_at zs h x hm
    rw [e] at this
    obtain ⟨h3, h4⟩ := List.getElem?_eq_some_iff.1 this
    exact ⟨h3, by rw [getD_at _ _ h3]; exact h4⟩
  · rintro ⟨h3, h4⟩
    rw [getD_at _ _ h3] at h4
    rw [← h4]
    exact List.getElem_mem h3
end Go.Proofs.Ytfeibhdnmfiflaa
