/-
  Beginnings of phrases, by their numbers: phrase by phrase, byte by byte, one that is not there yet is the next. No Go here: lists of numbers alone. A numbered beginning's sons: the bytes by which it goes on, rising, and their numbers; what a new beginning turns of them. No Go here: lists of numbers alone. Ends of beginnings: the longest proper end that is a beginning, the longest that is a phrase; the order by length. No Go here: lists of numbers alone. The longest end of a text that is a beginning. No Go here. Scanning: the longest end that is a beginning, byte by byte; all phrases that are ends, the longest first. No Go here: lists of numbers alone. Hits of bytes: where each lies, in which order they come, how many there are. No Go here: lists of numbers alone.
-/
import Derived.Test.YtdplflcaanmmiaaGreatBase
namespace Go.Proofs.YtdplflcaanmmiaaGreat

/-- The first k beginnings of s, laid behind those of A where they lack. -/
def addUpto (A : List (List Nat)) (s : List Nat) : Nat → List (List Nat)
  | 0 => A
  | k + 1 => if s.take (k + 1) ∈ addUpto A s k then addUpto A s k else addUpto A s k ++ [s.take (k + 1)]

/-- All beginnings, by their numbers. -/
def nodesN (L : List (List Nat)) : List (List Nat) := L.foldl (fun A s => addUpto A s s.length) [[]]

theorem nodesN_nil : nodesN [] = [[]] := rfl
theorem nodesN_snoc (L : List (List Nat)) (s : List Nat) : nodesN (L ++ [s]) = addUpto (nodesN L) s s.length := by simp [nodesN]

/-- What holds of the numbered beginnings: the root is the first, none comes twice, each one's father is numbered before it. -/
structure Nodes (A : List (List Nat)) : Prop where
  root : A[0]? = some []
  once : A.Nodup
  father : ∀ (i : Nat) (x : List Nat), A[i]? = some x → x ≠ [] → ∃ j, j < i ∧ A[j]? = some x.dropLast

theorem addUpto_prefix (A : List (List Nat)) (s : List Nat) (k : Nat) : A <+: addUpto A s k := by
  induction k with
  | zero => exact List.prefix_refl _
  | succ k ih =>
    rw [addUpto]
    split
    · exact ih
    · exact ih.trans (List.prefix_append _ _)

theorem addUpto_mem (A : List (List Nat)) (s : List Nat) (k : Nat) (x : List Nat) : x ∈ addUpto A s k ↔ x ∈ A ∨ ∃ j, 1 ≤ j ∧ j ≤ k ∧ x = s.take j := by
  induction k with
  | zero =>
    rw [addUpto]
    constructor
    · exact .inl
    · rintro (h | ⟨j, h1, h2, _⟩)
      · exact h
      · omega
  | succ k ih =>
    rw [addUpto]
    split
    · rename_i hm
      rw [ih]
      constructor
      · rintro (h | ⟨j, h1, h2, h3⟩)
        · exact .inl h
        · exact .inr ⟨j, h1, by omega, h3⟩
      · rintro (h | ⟨j, h1, h2, rfl⟩)
        · exact .inl h
        · by_cases e : j = k + 1
          · subst e; exact ih.1 hm
          · exact .inr ⟨j, h1, by omega, rfl⟩
    · rw [List.mem_append, ih, List.mem_singleton]
      constructor
      · rintro ((h | ⟨j, h1, h2, h3⟩) | h)
        · exact .inl h
        · exact .inr ⟨j, h1, by omega, h3⟩
        · exact .inr ⟨k + 1, by omega, by omega, h⟩
      · rintro (h | ⟨j, h1, h2, h3⟩)
        · exact .inl (.inl h)
        · by_cases e : j = k + 1
          · subst e; exact .inr h3
          · exact .inl (.inr ⟨j, h1, by omega, h3⟩)

theorem addUpto_length (A : List (List Nat)) (s : List Nat) (k : Nat) : A.length ≤ (addUpto A s k).length ∧ (addUpto A s k).length ≤ A.length + k := by
  induction k with
  | zero => simp [addUpto]
  | succ k ih =>
    rw [addUpto]
    split
    · omega
    · rw [List.length_append]; simp; omega

theorem Nodes.root_mem {A : List (List Nat)} (h : Nodes A) : [] ∈ A := List.mem_of_getElem? h.root

theorem Nodes.add {A : List (List Nat)} (h : Nodes A) {x y : List Nat} (hx : x ∉ A) (hy : y ∈ A) (hd : x ≠ [] → x.dropLast = y) : Nodes (A ++ [x]) := by
  have hlen : 0 < A.length := by
    rcases Nat.eq_zero_or_pos A.length with h0 | h0
    · have := h.root; rw [List.getElem?_eq_none (by omega)] at this; cases this
    · exact h0
  refine ⟨by rw [List.getElem?_append_left hlen]; exact h.root, ?_, ?_⟩
  · rw [List.nodup_append]
    exact ⟨h.once, by simp, by
      intro a ha b hb
      rw [List.mem_singleton.1 hb]
      rintro rfl
      exact hx ha⟩
  · intro i z hz hne
    rcases Nat.lt_or_ge i A.length with hi | hi
    · rw [List.getElem?_append_left hi] at hz
      obtain ⟨j, hj, e⟩ := h.father i z hz hne
      exact ⟨j, hj, by rw [List.getElem?_append_left (by omega)]; exact e⟩
    · have hi2 : i = A.length := by
        have := (List.getElem?_eq_some_iff.1 hz).1
        rw [List.length_append] at this
        simp at this
        omega
      subst hi2
      rw [List.getElem?_append_right (Nat.le_refl _)] at hz
      simp at hz
      subst hz
      obtain ⟨j, hj, e⟩ := List.getElem_of_mem hy
      exact ⟨j, hj, by rw [List.getElem?_append_left hj, List.getElem?_eq_getElem hj, e, hd hne]⟩

theorem dropLast_take (s : List Nat) (k : Nat) (hk : k + 1 ≤ s.length) : (s.take (k + 1)).dropLast = s.take k := by
  rw [List.take_succ_eq_append_getElem (by omega), List.dropLast_concat]

theorem Nodes.addUpto {A : List (List Nat)} (h : Nodes A) (s : List Nat) (k : Nat) (hk : k ≤ s.length) : Nodes (addUpto A s k) := by
  induction k with
  | zero => exact h
  | succ k ih =>
    have ih := ih (by omega)
    rw [Go.Proofs.YtdplflcaanmmiaaGreat.addUpto]
    split
    · exact ih
    · rename_i hm
      refine ih.add hm (y := s.take k) ?_ (fun _ => dropLast_take s k hk)
      rw [addUpto_mem]
      by_cases h0 : k = 0
      · subst h0; left; simpa using h.root_mem
      · exact .inr ⟨k, by omega, by omega, rfl⟩

theorem nodes_one : Nodes [[]] := by
  refine ⟨rfl, by simp, fun i x h hne => ?_⟩
  have := (List.getElem?_eq_some_iff.1 h).1
  simp at this
  subst this
  simp at h
  exact absurd (by first | exact h | exact h.symm) hne

theorem nodesN_from {A : List (List Nat)} (h : Nodes A) (L : List (List Nat)) : Nodes (L.foldl (fun A s => addUpto A s s.length) A) := by
  induction L generalizing A with
  | nil => exact h
  | cons s L ih => exact ih (h.addUpto s s.length (Nat.le_refl _))

theorem nodes_all (L : List (List Nat)) : Nodes (nodesN L) := nodesN_from nodes_one L

theorem fold_mem (L : List (List Nat)) : ∀ (A : List (List Nat)) (x : List Nat), x ∈ L.foldl (fun A s => addUpto A s s.length) A ↔ x ∈ A ∨ ∃ s ∈ L, ∃ j, 1 ≤ j ∧ j ≤ s.length ∧ x = s.take j := by
  induction L with
  | nil => intro A x; simp
  | cons s L ih =>
    intro A x
    rw [List.foldl_cons, ih, addUpto_mem]
    constructor
    · rintro ((h | ⟨j, h1, h2, h3⟩) | ⟨t, ht, j, h⟩)
      · exact .inl h
      · exact .inr ⟨s, by simp, j, h1, h2, h3⟩
      · exact .inr ⟨t, by simp [ht], j, h⟩
    · rintro (h | ⟨t, ht, j, h⟩)
      · exact .inl (.inl h)
      · rcases List.mem_cons.1 ht with rfl | ht
        · exact .inl (.inr ⟨j, h⟩)
        · exact .inr ⟨t, ht, j, h⟩

/-- A list is numbered if it is a beginning of a phrase. -/
theorem nodesN_mem (L : List (List Nat)) (x : List Nat) : x ∈ nodesN L ↔ x = [] ∨ ∃ s ∈ L, ∃ j, 1 ≤ j ∧ j ≤ s.length ∧ x = s.take j := by
  rw [nodesN, fold_mem]; simp

theorem fold_length (L : List (List Nat)) : ∀ A : List (List Nat), (L.foldl (fun A s => addUpto A s s.length) A).length ≤ A.length + (L.map List.length).sum := by
  induction L with
  | nil => intro A; simp
  | cons s L ih =>
    intro A
    rw [List.foldl_cons]
    have h1 := ih (addUpto A s s.length)
    have h2 := (addUpto_length A s s.length).2
    simp only [List.map_cons, List.sum_cons]
    omega

theorem nodesN_length (L : List (List Nat)) : (nodesN L).length ≤ 1 + (L.map List.length).sum := by
  have := fold_length L [[]]
  simpa [nodesN] using this

/-- Beginnings of a numbered one are numbered. -/
theorem nodesN_take (L : List (List Nat)) (x : List Nat) (hx : x ∈ nodesN L) (k : Nat) : x.take k ∈ nodesN L := by
  rw [nodesN_mem] at hx ⊢
  rcases hx with rfl | ⟨s, hs, j, h1, h2, rfl⟩
  · left; simp
  · rw [List.take_take]
    by_cases h0 : min k j = 0
    · left; rw [h0]; rfl
    · exact .inr ⟨s, hs, min k j, by omega, by omega, rfl⟩

/-- With more phrases the numbers stay. -/
theorem fold_prefix (L : List (List Nat)) : ∀ A : List (List Nat), A <+: L.foldl (fun A s => addUpto A s s.length) A := by
  induction L with
  | nil => intro A; exact List.prefix_refl _
  | cons s L ih => intro A; exact (addUpto_prefix A s s.length).trans (ih _)

theorem nodesN_prefix (L M : List (List Nat)) : nodesN L <+: nodesN (L ++ M) := by
  rw [nodesN, nodesN, List.foldl_append]
  exact fold_prefix M _
end Go.Proofs.YtdplflcaanmmiaaGreat

namespace Go.Proofs.YtdplflcaanmmiaaGreat

/-- The bytes by which a beginning goes on, rising. -/
def byOf (A : List (List Nat)) (x : List Nat) : List Nat := (List.range 256).filter (fun c => decide (x ++ [c] ∈ A))

/-- The numbers of these sons. -/
def sonsOf (A : List (List Nat)) (x : List Nat) : List Nat := (byOf A x).map (fun c => A.idxOf (x ++ [c]))

theorem byOf_mem (A : List (List Nat)) (x : List Nat) (c : Nat) : c ∈ byOf A x ↔ c < 256 ∧ x ++ [c] ∈ A := by
  simp [byOf]

theorem byOf_rising (A : List (List Nat)) (x : List Nat) : (byOf A x).Pairwise (· < ·) := List.Pairwise.filter _ List.pairwise_lt_range

theorem byOf_length (A : List (List Nat)) (x : List Nat) : (byOf A x).length ≤ 256 := by
  have := List.length_filter_le (fun c => decide (x ++ [c] ∈ A)) (List.range 256)
  simpa [byOf] using this

theorem sonsOf_length (A : List (List Nat)) (x : List Nat) : (sonsOf A x).length = (byOf A x).length := by simp [sonsOf]

theorem byOf_byte (A : List (List Nat)) (x : List Nat) : ∀ c ∈ byOf A x, c < 256 := fun c hc => ((byOf_mem A x c).1 hc).1

/-- In a rising list: those below x come first. -/
theorem rising_split (l : List Nat) (h : l.Pairwise (· < ·)) (x : Nat) : l.take (l.countP (· < x)) = l.filter (· < x) ∧ l.drop (l.countP (· < x)) = l.filter (fun y => decide (x ≤ y)) := by
  induction l with
  | nil => simp
  | cons a l ih =>
    have h2 := List.pairwise_cons.1 h
    by_cases ha : a < x
    · have e : (a :: l).countP (· < x) = l.countP (· < x) + 1 := by simp [ha]
      have ih := ih h2.2
      rw [e, List.take_succ_cons, List.drop_succ_cons, ih.1, ih.2]
      simp [ha, Nat.not_le.2 ha]
    · have hall : ∀ y ∈ a :: l, ¬ y < x := by
        intro y hy
        rcases List.mem_cons.1 hy with rfl | hy
        · exact ha
        · have := h2.1 y hy
          omega
      have e : (a :: l).countP (· < x) = 0 := List.countP_eq_zero.2 (fun y hy => by simpa using hall y hy)
      rw [e, List.take_zero, List.drop_zero]
      constructor
      · symm
        rw [List.filter_eq_nil_iff]
        intro y hy
        simpa using hall y hy
      · symm
        rw [List.filter_eq_self]
        intro y hy
        have := hall y hy
        simp
        omega

/-- Where a number stands in a rising list. -/
theorem rising_at (l : List Nat) (h : l.Pairwise (· < ·)) (x : Nat) (hx : x ∈ l) : l[l.countP (· < x)]? = some x := by
  induction l with
  | nil => cases hx
  | cons a l ih =>
    have h2 := List.pairwise_cons.1 h
    rcases List.mem_cons.1 hx with rfl | hm
    · have e : (x :: l).countP (· < x) = 0 := List.countP_eq_zero.2 (fun y hy => by
        rcases List.mem_cons.1 hy with rfl | hy
        · simp
        · have := h2.1 y hy
          simp
          omega)
      rw [e]
      rfl
    · have ha := h2.1 x hm
      have e : (a :: l).countP (· < x) = l.countP (· < x) + 1 := by simp [ha]
      rw [e, List.getElem?_cons_succ]
      exact ih h2.2 hm

theorem range_split (c : Nat) (hc : c < 256) : List.range 256 = List.range c ++ c :: List.range' (c + 1) (255 - c) := by
  rw [List.range_eq_range', List.range_eq_range']
  have e1 : List.range' 0 256 = List.range' 0 c ++ List.range' c (256 - c) := by
    have := (List.range'_append (s := 0) (m := c) (n := 256 - c) (step := 1)).symm
    rw [show c + (256 - c) = 256 by omega] at this
    simpa using this
  rw [e1, show 256 - c = (255 - c) + 1 by omega, List.range'_succ]

theorem filter_more (p q : Nat → Bool) (c : Nat) (hc : c < 256) (hp : p c = false) (hq : q c = true) (hpq : ∀ d, d ≠ c → q d = p d) :
    (List.range 256).filter q = ((List.range 256).filter p).take (((List.range 256).filter p).countP (· < c)) ++ c :: ((List.range 256).filter p).drop (((List.range 256).filter p).countP (· < c)) := by
  have hs := rising_split ((List.range 256).filter p) (List.Pairwise.filter _ List.pairwise_lt_range) c
  rw [hs.1, hs.2, List.filter_filter, List.filter_filter, range_split c hc, List.filter_append, List.filter_append, List.filter_append, List.filter_cons, if_pos hq, List.filter_cons, if_neg (by simp), List.filter_cons, if_neg (by simp [hp])]
  have hl : ∀ d ∈ List.range c, d < c := fun d hd => List.mem_range.1 hd
  have hr : ∀ d ∈ List.range' (c + 1) (255 - c), c < d := fun d hd => by have := List.mem_range'_1.1 hd; omega
  have a1 : (List.range c).filter q = (List.range c).filter (fun a => decide (a < c) && p a) := List.filter_congr (fun d hd => by have := hl d hd; rw [hpq d (by omega)]; simp [this])
  have a2 : (List.range' (c + 1) (255 - c)).filter (fun a => decide (a < c) && p a) = [] := List.filter_eq_nil_iff.2 (fun d hd => by have := hr d hd; simp; omega)
  have a3 : (List.range c).filter (fun a => decide (c ≤ a) && p a) = [] := List.filter_eq_nil_iff.2 (fun d hd => by have := hl d hd; simp; omega)
  have a4 : (List.range' (c + 1) (255 - c)).filter q = (List.range' (c + 1) (255 - c)).filter (fun a => decide (c ≤ a) && p a) := List.filter_congr (fun d hd => by have := hr d hd; rw [hpq d (by omega)]; simp; omega)
  rw [a1, a2, a3, a4]
  simp

theorem snoc_inj {x y : List Nat} {c d : Nat} (h : x ++ [c] = y ++ [d]) : x = y ∧ c = d := by
  have := List.append_inj' h rfl
  exact ⟨this.1, by simpa using this.2⟩

/-- A new beginning: its father goes on by one byte more. -/
theorem byOf_new (A : List (List Nat)) (x : List Nat) (c : Nat) (hc : c < 256) (hn : x ++ [c] ∉ A) :
    byOf (A ++ [x ++ [c]]) x = (byOf A x).take ((byOf A x).countP (· < c)) ++ c :: (byOf A x).drop ((byOf A x).countP (· < c)) := by
  refine filter_more _ _ c hc (decide_eq_false hn) (decide_eq_true (by simp)) (fun d hd => ?_)
  have : x ++ [d] ∈ A ++ [x ++ [c]] ↔ x ++ [d] ∈ A := by
    rw [List.mem_append, List.mem_singleton]
    constructor
    · rintro (h | h)
      · exact h
      · exact absurd (snoc_inj h).2 hd
    · exact .inl
  rw [decide_eq_decide]
  exact this

/-- All others' are as they were. -/
theorem byOf_other (A : List (List Nat)) (x z : List Nat) (c : Nat) (hz : z ≠ x) : byOf (A ++ [x ++ [c]]) z = byOf A z := by
  unfold byOf
  apply List.filter_congr
  intro d _
  rw [decide_eq_decide, List.mem_append, List.mem_singleton]
  constructor
  · rintro (h | h)
    · exact h
    · exact absurd (snoc_inj h).1 hz
  · exact .inl

theorem idxOf_more (A : List (List Nat)) (x y : List Nat) (hx : x ∈ A) : (A ++ [y]).idxOf x = A.idxOf x := by
  rw [List.idxOf_append, if_pos hx]
theorem idxOf_new (A : List (List Nat)) (y : List Nat) (hy : y ∉ A) : (A ++ [y]).idxOf y = A.length := by
  rw [List.idxOf_append, if_neg hy]
  simp

theorem sonsOf_old (A : List (List Nat)) (x y : List Nat) (l : List Nat) (hl : ∀ c ∈ l, x ++ [c] ∈ A) : l.map (fun c => (A ++ [y]).idxOf (x ++ [c])) = l.map (fun c => A.idxOf (x ++ [c])) :=
  List.map_congr_left (fun c hc => idxOf_more A _ y (hl c hc))

theorem sonsOf_new (A : List (List Nat)) (x : List Nat) (c : Nat) (hc : c < 256) (hn : x ++ [c] ∉ A) :
    sonsOf (A ++ [x ++ [c]]) x = (sonsOf A x).take ((byOf A x).countP (· < c)) ++ A.length :: (sonsOf A x).drop ((byOf A x).countP (· < c)) := by
  unfold sonsOf
  rw [byOf_new A x c hc hn, List.map_append, List.map_cons, idxOf_new A _ hn,
    sonsOf_old A x _ _ (fun d hd => ((byOf_mem A x d).1 (List.mem_of_mem_take hd)).2),
    sonsOf_old A x _ _ (fun d hd => ((byOf_mem A x d).1 (List.mem_of_mem_drop hd)).2), List.map_take, List.map_drop]

theorem sonsOf_other (A : List (List Nat)) (x z : List Nat) (c : Nat) (hz : z ≠ x) : sonsOf (A ++ [x ++ [c]]) z = sonsOf A z := by
  unfold sonsOf
  rw [byOf_other A x z c hz, sonsOf_old A z _ _ (fun d hd => ((byOf_mem A z d).1 hd).2)]

/-- A beginning that is just new has no sons. -/
theorem Nodes.fresh {A : List (List Nat)} (h : Nodes A) {y : List Nat} (hy : y ∉ A) (d : Nat) : y ++ [d] ∉ A := by
  intro hm
  obtain ⟨i, hi, e⟩ := List.getElem_of_mem hm
  obtain ⟨j, _, hj⟩ := h.father i (y ++ [d]) (by rw [List.getElem?_eq_getElem hi, e]) (by simp)
  rw [List.dropLast_concat] at hj
  exact hy (List.mem_of_getElem? hj)

theorem byOf_fresh {A : List (List Nat)} (h : Nodes A) {x : List Nat} {c : Nat} (hy : x ++ [c] ∉ A) : byOf (A ++ [x ++ [c]]) (x ++ [c]) = [] := by
  rw [byOf_other A x _ c (by intro e; have := congrArg List.length e; simp at this)]
  unfold byOf
  rw [List.filter_eq_nil_iff]
  intro d _
  simpa using h.fresh hy d

/-- The son by a byte, where it is. -/
theorem sonsOf_at (A : List (List Nat)) (x : List Nat) (c : Nat) (hc : c < 256) (hm : x ++ [c] ∈ A) : (sonsOf A x)[(byOf A x).countP (· < c)]? = some (A.idxOf (x ++ [c])) := by
  unfold sonsOf
  rw [List.getElem?_map, rising_at _ (byOf_rising A x) c ((byOf_mem A x c).2 ⟨hc, hm⟩)]
  rfl

theorem countP_le (l : List Nat) (c : Nat) : l.countP (· < c) ≤ l.length := List.countP_le_length

theorem byOf_contains (A : List (List Nat)) (x : List Nat) (c : Nat) (hc : c < 256) : (byOf A x).contains c = decide (x ++ [c] ∈ A) := by
  rw [Bool.eq_iff_iff, List.contains_iff_mem, byOf_mem, decide_eq_true_eq]
  exact ⟨fun h => h.2, fun h => ⟨hc, h⟩⟩

theorem getD_at (l : List Nat) (i : Nat) (h : i < l.length) : l.getD i 0 = l[i] := by simp [List.getD, h]

/-- What a search by halves has found at its end. -/
theorem search_done (zs : List Nat) (h : zs.Pairwise (· < ·)) (i x : Nat) (hi : i ≤ zs.length) (h1 : ∀ j, j < i → zs.getD j 0 < x) (h2 : ∀ j, i ≤ j → j < zs.length → x ≤ zs.getD j 0) :
    zs.countP (· < x) = i ∧ zs.contains x = decide (i < zs.length ∧ zs.getD i 0 = x) := by
  have e : zs.countP (· < x) = i := by
    have hs := rising_split zs h x
    have l1 : ∀ j (hj : j < zs.length), j < zs.countP (· < x) → zs[j] < x := by
      intro j hj hjc
      have hm : zs[j] ∈ zs.take (zs.countP (· < x)) := by
        rw [List.mem_take_iff_getElem]
        exact ⟨j, by omega, rfl⟩
      rw [hs.1] at hm
      simpa using (List.mem_filter.1 hm).2
    have l2 : ∀ j (hj : j < zs.length), zs.countP (· < x) ≤ j → x ≤ zs[j] := by
      intro j hj hjc
      have hm : zs[j] ∈ zs.drop (zs.countP (· < x)) := by
        rw [List.mem_drop_iff_getElem]
        exact ⟨j - zs.countP (· < x), by omega, by congr 1; omega⟩
      rw [hs.2] at hm
      simpa using (List.mem_filter.1 hm).2
    have hc := countP_le zs x
    rcases Nat.lt_trichotomy (zs.countP (· < x)) i with hl | hl | hl
    · have a := h1 _ hl
      have b := l2 _ (Nat.lt_of_lt_of_le hl hi) (Nat.le_refl _)
      rw [getD_at _ _ (Nat.lt_of_lt_of_le hl hi)] at a
      omega
    · exact hl
    · have hi2 : i < zs.length := by omega
      have a := h2 i (Nat.le_refl _) hi2
      have b := l1 i hi2 hl
      rw [getD_at _ _ hi2] at a
      omega
  refine ⟨e, ?_⟩
  rw [Bool.eq_iff_iff, List.contains_iff_mem, decide_eq_true_eq]
  constructor
  · intro hm
    have := rising_at zs h x hm
    rw [e] at this
    obtain ⟨h3, h4⟩ := List.getElem?_eq_some_iff.1 this
    exact ⟨h3, by rw [getD_at _ _ h3]; exact h4⟩
  · rintro ⟨h3, h4⟩
    rw [getD_at _ _ h3] at h4
    rw [← h4]
    exact List.getElem_mem h3
end Go.Proofs.YtdplflcaanmmiaaGreat

namespace Go.Proofs.YtdplflcaanmmiaaGreat

/-- The longest proper end of x that is among A (the empty one, if none). -/
def failT (A : List (List Nat)) : List Nat → List Nat
  | [] => []
  | _ :: t => if t ∈ A then t else failT A t

/-- The longest proper end of x that is among P, if there is one. -/
def outT (P : List (List Nat)) : List Nat → Option (List Nat)
  | [] => none
  | _ :: t => if t ∈ P then some t else outT P t

theorem failT_suffix (A : List (List Nat)) (x : List Nat) : failT A x <:+ x := by
  induction x with
  | nil => exact List.suffix_refl _
  | cons c t ih =>
    rw [failT]
    split
    · exact List.suffix_cons c t
    · exact ih.trans (List.suffix_cons c t)

theorem failT_short (A : List (List Nat)) (x : List Nat) (h : x ≠ []) : (failT A x).length < x.length := by
  cases x with
  | nil => exact absurd rfl h
  | cons c t =>
    rw [failT]
    split
    · simp
    · have := (failT_suffix A t).length_le
      simp only [List.length_cons]
      omega

theorem failT_mem (A : List (List Nat)) (h : [] ∈ A) (x : List Nat) : failT A x ∈ A := by
  induction x with
  | nil => exact h
  | cons c t ih =>
    rw [failT]
    split
    · assumption
    · exact ih

/-- None that is longer is among them. -/
theorem failT_longest (A : List (List Nat)) (x s : List Nat) (hs : s <:+ x) (hl : s.length < x.length) (hm : s ∈ A) : s.length ≤ (failT A x).length := by
  induction x with
  | nil => simp at hl
  | cons c t ih =>
    have hst : s <:+ t := by
      rcases List.suffix_cons_iff.1 hs with e | h
      · rw [e] at hl; omega
      · exact h
    rw [failT]
    split
    · exact hst.length_le
    · rename_i hn
      have hne : s ≠ t := fun e => hn (e ▸ hm)
      have hlt : s.length < t.length := by
        rcases Nat.lt_or_ge s.length t.length with h | h
        · exact h
        · exact absurd (hst.eq_of_length_le h) hne
      exact ih hst hlt

/-- What marks it out. -/
theorem failT_is (A : List (List Nat)) (x s : List Nat) (h0 : [] ∈ A) (hx : x ≠ []) (hs : s <:+ x) (hl : s.length < x.length) (hm : s ∈ A) (hb : ∀ r, r <:+ x → r.length < x.length → r ∈ A → r.length ≤ s.length) : failT A x = s := by
  have h1 := failT_longest A x s hs hl hm
  have h2 := hb (failT A x) (failT_suffix A x) (failT_short A x hx) (failT_mem A h0 x)
  exact List.IsSuffix.eq_of_length ((List.suffix_or_suffix_of_suffix (failT_suffix A x) hs).elim (fun h => h) (fun h => by
    have := h.eq_of_length (by omega)
    rw [this]
    exact List.suffix_refl _)) (by omega)

theorem outT_none (P : List (List Nat)) (x : List Nat) (h : outT P x = none) : ∀ s, s <:+ x → s.length < x.length → s ∉ P := by
  induction x with
  | nil => intro s _ hl; simp at hl
  | cons c t ih =>
    rw [outT] at h
    split at h
    · cases h
    · rename_i hn
      intro s hs hl hm
      rcases List.suffix_cons_iff.1 hs with e | hst
      · rw [e] at hl; omega
      · have hne : s ≠ t := fun e => hn (e ▸ hm)
        have hlt : s.length < t.length := by
          rcases Nat.lt_or_ge s.length t.length with h | h
          · exact h
          · exact absurd (hst.eq_of_length_le h) hne
        exact ih h s hst hlt hm

theorem outT_some (P : List (List Nat)) (x s : List Nat) (h : outT P x = some s) : s <:+ x ∧ s.length < x.length ∧ s ∈ P ∧ ∀ r, r <:+ x → r.length < x.length → r ∈ P → r.length ≤ s.length := by
  induction x with
  | nil => cases h
  | cons c t ih =>
    rw [outT] at h
    split at h
    · rename_i hm
      injection h with h
      subst h
      refine ⟨List.suffix_cons c t, by simp, hm, fun r hr hl _ => ?_⟩
      simp only [List.length_cons] at hl
      omega
    · rename_i hn
      obtain ⟨h1, h2, h3, h4⟩ := ih h
      refine ⟨h1.trans (List.suffix_cons c t), by simp only [List.length_cons]; omega, h3, fun r hr hl hm => ?_⟩
      rcases List.suffix_cons_iff.1 hr with e | hrt
      · rw [e] at hl; omega
      · have hne : r ≠ t := fun e => hn (e ▸ hm)
        have hlt : r.length < t.length := by
          rcases Nat.lt_or_ge r.length t.length with h | h
          · exact h
          · exact absurd (hrt.eq_of_length_le h) hne
        exact h4 r hrt hlt hm

/-- By the links one comes to it: the first phrase on the way. -/
theorem outT_step (A P : List (List Nat)) (hP : ∀ s ∈ P, s ∈ A) (x : List Nat) : outT P x = if x = [] then none else if failT A x ∈ P then some (failT A x) else outT P (failT A x) := by
  induction x with
  | nil => simp [outT]
  | cons c t ih =>
    rw [if_neg (by simp), outT, failT]
    by_cases ht : t ∈ A
    · rw [if_pos ht]
    · rw [if_neg ht, if_neg (fun h => ht (hP t h)), ih]
      by_cases h0 : t = []
      · subst h0
        rw [if_pos rfl, failT, if_neg (fun h => ht (hP _ h)), outT]
      · rw [if_neg h0]

/-- The way of one who goes on by a byte: the longest proper end of x and c is an end of x, and c. -/
theorem snoc_end (x : List Nat) (c : Nat) (s : List Nat) (hs : s ++ [c] <:+ x ++ [c]) : s <:+ x := by
  obtain ⟨r, e⟩ := hs
  rw [← List.append_assoc] at e
  exact ⟨r, (List.append_inj' e rfl).1⟩

/-- The longest end of z that goes on by c within A, and c; the empty one, if none does. -/
def endT (A : List (List Nat)) (c : Nat) : List Nat → List Nat
  | [] => if [c] ∈ A then [c] else []
  | d :: t => if (d :: t) ++ [c] ∈ A then (d :: t) ++ [c] else endT A c t

/-- The longest proper end of a beginning that is one byte longer. -/
theorem failT_snoc (A : List (List Nat)) (h0 : [] ∈ A) (d : Nat) (t : List Nat) (c : Nat) : failT A (d :: t ++ [c]) = endT A c t := by
  induction t generalizing d with
  | nil =>
    show failT A (d :: [c]) = _
    rw [failT, endT]
    split
    · rfl
    · show failT A (c :: []) = []
      rw [failT, if_pos h0]
  | cons e t ih =>
    show failT A (d :: (e :: t ++ [c])) = _
    rw [failT, endT]
    split
    · rfl
    · exact ih e

theorem failT_one (A : List (List Nat)) (h0 : [] ∈ A) (c : Nat) : failT A [c] = [] := by
  rw [failT, if_pos h0]

/-- Where z does not go on, one goes on from its longest proper end. -/
theorem endT_skip (A : List (List Nat)) (h0 : [] ∈ A) (hp : ∀ s c, s ++ [c] ∈ A → s ∈ A) (c : Nat) (z : List Nat) (hz : z ≠ []) (hn : z ++ [c] ∉ A) : endT A c z = endT A c (failT A z) := by
  induction z with
  | nil => exact absurd rfl hz
  | cons d t ih =>
    rw [endT, if_neg hn, failT]
    by_cases ht : t ∈ A
    · rw [if_pos ht]
    · rw [if_neg ht]
      have ht0 : t ≠ [] := fun e => ht (e ▸ h0)
      exact ih ht0 (fun h => ht (hp t c h))

theorem endT_at (A : List (List Nat)) (c : Nat) (z : List Nat) (h : z ++ [c] ∈ A) : endT A c z = z ++ [c] := by
  cases z with
  | nil => rw [endT, if_pos (by simpa using h)]; rfl
  | cons d t => rw [endT, if_pos h]

/-- The longest proper end of x and c, by that of x. -/
theorem failT_by (A : List (List Nat)) (h0 : [] ∈ A) (hp : ∀ s c, s ++ [c] ∈ A → s ∈ A) (x : List Nat) (hx : x ≠ []) (c : Nat) : failT A (x ++ [c]) = endT A c (failT A x) := by
  cases x with
  | nil => exact absurd rfl hx
  | cons d t =>
    rw [failT_snoc A h0, failT]
    by_cases ht : t ∈ A
    · rw [if_pos ht]
    · rw [if_neg ht]
      have ht0 : t ≠ [] := fun e => ht (e ▸ h0)
      exact endT_skip A h0 hp c t ht0 (fun h => ht (hp t c h))

/-- All numbers of beginnings, by length, then by number. -/
def orderN (A : List (List Nat)) (most : Nat) : List Nat := (List.range (most + 1)).flatMap (fun n => (List.range A.length).filter (fun i => decide ((A.getD i []).length = n)))

theorem orderN_mem (A : List (List Nat)) (most : Nat) (hm : ∀ x ∈ A, x.length ≤ most) (i : Nat) : i ∈ orderN A most ↔ i < A.length := by
  simp only [orderN, List.mem_flatMap, List.mem_range, List.mem_filter, decide_eq_true_eq]
  constructor
  · rintro ⟨n, _, h, _⟩
    exact h
  · intro h
    have h2 : A.getD i [] = A[i]'h := by simp [List.getD, h]
    exact ⟨(A.getD i []).length, by rw [h2]; have := hm _ (List.getElem_mem h); omega, h, rfl⟩

theorem orderN_once (A : List (List Nat)) (most : Nat) : (orderN A most).Nodup := by
  unfold orderN List.Nodup
  rw [List.pairwise_flatMap]
  refine ⟨fun n _ => List.Pairwise.filter _ (List.pairwise_lt_range.imp (fun h => Nat.ne_of_lt h)), ?_⟩
  refine List.pairwise_lt_range.imp (fun {a b} hab => ?_)
  intro x hx y hy e
  simp only [List.mem_filter, decide_eq_true_eq] at hx hy
  subst e
  omega
end Go.Proofs.YtdplflcaanmmiaaGreat

namespace Go.Proofs.YtdplflcaanmmiaaGreat

/-- The longest end of z that is among A (the empty one, if none). -/
def longT (A : List (List Nat)) : List Nat → List Nat
  | [] => []
  | c :: t => if c :: t ∈ A then c :: t else longT A t

theorem longT_at (A : List (List Nat)) (z : List Nat) (h : z ∈ A) : longT A z = z := by
  cases z with
  | nil => rfl
  | cons c t => rw [longT, if_pos h]

theorem longT_skip (A : List (List Nat)) (x : List Nat) (k : Nat) (hk : k < x.length) (h : x.drop k ∉ A) : longT A (x.drop k) = longT A (x.drop (k + 1)) := by
  have e := List.drop_eq_getElem_cons hk
  rw [e] at h
  conv => lhs; rw [e, longT, if_neg h]

theorem failT_long (A : List (List Nat)) (x : List Nat) (h0 : [] ∈ A) : failT A x = longT A (x.drop 1) := by
  cases x with
  | nil => rfl
  | cons c t =>
    rw [List.drop_one, List.tail_cons]
    rw [failT]
    induction t with
    | nil => rw [if_pos h0]; rfl
    | cons d t ih =>
      rw [longT]
      split
      · rfl
      · rw [failT]; exact ih

end Go.Proofs.YtdplflcaanmmiaaGreat

namespace Go.Proofs.YtdplflcaanmmiaaGreat

theorem longT_suffix (A : List (List Nat)) (z : List Nat) : longT A z <:+ z := by
  induction z with
  | nil => exact List.suffix_refl _
  | cons c t ih =>
    rw [longT]
    split
    · exact List.suffix_refl _
    · exact ih.trans (List.suffix_cons c t)

theorem longT_mem (A : List (List Nat)) (h0 : [] ∈ A) (z : List Nat) : longT A z ∈ A := by
  induction z with
  | nil => exact h0
  | cons c t ih =>
    rw [longT]
    split
    · assumption
    · exact ih

theorem longT_longest (A : List (List Nat)) (z s : List Nat) (hs : s <:+ z) (hm : s ∈ A) : s <:+ longT A z := by
  induction z with
  | nil => rw [List.suffix_nil] at hs; rw [hs]; exact List.nil_suffix
  | cons c t ih =>
    rw [longT]
    split
    · exact hs
    · rename_i hn
      rcases List.suffix_cons_iff.1 hs with e | h
      · exact absurd (e ▸ hm) hn
      · exact ih h

/-- What marks it out. -/
theorem longT_is (A : List (List Nat)) (z s : List Nat) (hs : s <:+ z) (hm : s ∈ A) (hb : ∀ r, r <:+ z → r ∈ A → r <:+ s) (h0 : [] ∈ A) : longT A z = s := by
  have h1 := longT_longest A z s hs hm
  have h2 := hb _ (longT_suffix A z) (longT_mem A h0 z)
  exact h2.eq_of_length (Nat.le_antisymm h2.length_le h1.length_le)

/-- One byte more. -/
theorem longT_snoc (A : List (List Nat)) (h0 : [] ∈ A) (hp : ∀ s c, s ++ [c] ∈ A → s ∈ A) (z : List Nat) (c : Nat) : longT A (z ++ [c]) = longT A (longT A z ++ [c]) := by
  have hsuf : longT A z ++ [c] <:+ z ++ [c] := by
    obtain ⟨r, e⟩ := longT_suffix A z
    exact ⟨r, by rw [← List.append_assoc, e]⟩
  refine (longT_is A _ _ (longT_suffix A _ |>.trans hsuf) (longT_mem A h0 _) (fun r hr hm => ?_) h0)
  rcases List.eq_nil_or_concat r with e | ⟨y, d, e⟩
  · rw [e]; exact List.nil_suffix
  · rw [List.concat_eq_append] at e
    subst e
    obtain ⟨q, e2⟩ := hr
    rw [← List.append_assoc] at e2
    obtain ⟨e3, e4⟩ := List.append_inj' e2 rfl
    have hyz : y <:+ longT A z := longT_longest A z y ⟨q, e3⟩ (hp y d hm)
    refine longT_longest A _ _ ?_ hm
    obtain ⟨q2, e5⟩ := hyz
    exact ⟨q2, by rw [← List.append_assoc, e5, e4]⟩

/-- By the links: the longest end of z that goes on by c. -/
theorem longT_end (A : List (List Nat)) (z : List Nat) (c : Nat) : longT A (z ++ [c]) = endT A c z := by
  induction z with
  | nil =>
    show longT A [c] = _
    rw [longT, endT]
    split
    · rfl
    · rfl
  | cons d t ih =>
    show longT A (d :: (t ++ [c])) = _
    rw [longT, endT]
    show (if d :: (t ++ [c]) ∈ A then _ else _) = if d :: (t ++ [c]) ∈ A then _ else _
    split
    · rfl
    · exact ih

theorem longT_self (A : List (List Nat)) (z : List Nat) (h : z ∈ A) : longT A z = z := longT_at A z h

/-- It hangs on the last bytes alone. -/
theorem longT_last (A : List (List Nat)) (h0 : [] ∈ A) (m : Nat) (hm : ∀ x ∈ A, x.length ≤ m) (a b : List Nat) (hb : m ≤ b.length) : longT A (a ++ b) = longT A b := by
  refine longT_is A _ _ ((longT_suffix A b).trans (List.suffix_append a b)) (longT_mem A h0 b) (fun r hr hr2 => ?_) h0
  refine longT_longest A b r ?_ hr2
  rcases List.suffix_or_suffix_of_suffix hr (List.suffix_append a b) with h | h
  · exact h
  · have h1 := h.length_le
    have h2 := hm r hr2
    have : b = r := h.eq_of_length (by omega)
    rw [this]
    exact List.suffix_refl _

/-- All ends of z that are phrases, the longest first. -/
def endsT (P : List (List Nat)) : List Nat → List (List Nat)
  | [] => []
  | c :: t => if c :: t ∈ P then (c :: t) :: endsT P t else endsT P t

theorem endsT_mem (P : List (List Nat)) (z s : List Nat) : s ∈ endsT P z ↔ s <:+ z ∧ s ∈ P ∧ s ≠ [] := by
  induction z with
  | nil =>
    constructor
    · intro h; cases h
    · rintro ⟨h1, _, h3⟩; exact absurd (List.suffix_nil.1 h1) h3
  | cons c t ih =>
    rw [endsT]
    split
    · rename_i hm
      rw [List.mem_cons, ih, List.suffix_cons_iff]
      constructor
      · rintro (rfl | ⟨h1, h2, h3⟩)
        · exact ⟨.inl rfl, hm, by simp⟩
        · exact ⟨.inr h1, h2, h3⟩
      · rintro ⟨h1 | h1, h2, h3⟩
        · exact .inl h1
        · exact .inr ⟨h1, h2, h3⟩
    · rename_i hm
      rw [ih, List.suffix_cons_iff]
      constructor
      · rintro ⟨h1, h2, h3⟩; exact ⟨.inr h1, h2, h3⟩
      · rintro ⟨h1 | h1, h2, h3⟩
        · exact absurd (h1 ▸ h2) hm
        · exact ⟨h1, h2, h3⟩

/-- They are those of the longest end that is a beginning. -/
theorem endsT_long (A P : List (List Nat)) (hP : ∀ s ∈ P, s ∈ A) (z : List Nat) : endsT P z = endsT P (longT A z) := by
  induction z with
  | nil => rfl
  | cons c t ih =>
    rw [longT]
    split
    · rfl
    · rename_i hn
      rw [endsT, if_neg (fun h => hn (hP _ h))]
      exact ih

/-- The text itself, and then by where phrases end, too. -/
theorem endsT_out (P : List (List Nat)) (h0 : [] ∉ P) (z : List Nat) : endsT P z = (if z ∈ P then [z] else []) ++ (match outT P z with | none => [] | some s => endsT P s) := by
  have key : ∀ t : List Nat, endsT P t = match (if t ∈ P then some t else outT P t) with | none => [] | some s => endsT P s := by
    intro t
    induction t with
    | nil => rw [if_neg h0]; rfl
    | cons d u ih =>
      by_cases hm : d :: u ∈ P
      · rw [if_pos hm]
      · rw [if_neg hm, endsT, if_neg hm, outT]
        exact ih
  cases z with
  | nil => rw [if_neg h0]; rfl
  | cons c t =>
    rw [outT, ← key t, endsT]
    split <;> rfl

theorem endsT_last (P : List (List Nat)) (m : Nat) (hm : ∀ x ∈ P, x.length ≤ m) (a b : List Nat) (hb : m ≤ b.length) : endsT P (a ++ b) = endsT P b := by
  induction a with
  | nil => rfl
  | cons c t ih =>
    show endsT P (c :: (t ++ b)) = _
    rw [endsT, if_neg (fun h => by have := hm _ h; simp at this; omega)]
    exact ih

theorem endsT_length (P : List (List Nat)) (z : List Nat) : (endsT P z).length ≤ z.length := by
  induction z with
  | nil => exact Nat.le_refl _
  | cons c t ih =>
    rw [endsT]
    split
    · simp only [List.length_cons]; omega
    · simp only [List.length_cons]; omega

/-- The hits of bytes b behind bytes z, of which at are counted: where each ends, and which phrase it is. -/
def hitsT (P : List (List Nat)) (at0 : Nat) (z : List Nat) : List Nat → List (Nat × Nat)
  | [] => []
  | c :: b => (endsT P (z ++ [c])).map (fun y => (at0 + 1, P.idxOf y)) ++ hitsT P (at0 + 1) (z ++ [c]) b

theorem hitsT_append (P : List (List Nat)) (a b : List Nat) : ∀ (at0 : Nat) (z : List Nat), hitsT P at0 z (a ++ b) = hitsT P at0 z a ++ hitsT P (at0 + a.length) (z ++ a) b := by
  induction a with
  | nil => intro at0 z; simp [hitsT]
  | cons c a ih =>
    intro at0 z
    show hitsT P at0 z (c :: (a ++ b)) = _
    rw [hitsT, hitsT, ih, List.append_assoc, List.length_cons, List.append_assoc, show at0 + 1 + a.length = at0 + (a.length + 1) by omega]
    rfl

/-- They hang on the longest end that is a beginning alone. -/
theorem hitsT_long (A P : List (List Nat)) (h0 : [] ∈ A) (hp : ∀ s c, s ++ [c] ∈ A → s ∈ A) (hP : ∀ s ∈ P, s ∈ A) (b : List Nat) : ∀ (at0 : Nat) (z z' : List Nat), longT A z = longT A z' → hitsT P at0 z b = hitsT P at0 z' b := by
  induction b with
  | nil => intro _ _ _ _; rfl
  | cons c b ih =>
    intro at0 z z' h
    have h2 : longT A (z ++ [c]) = longT A (z' ++ [c]) := by rw [longT_snoc A h0 hp z, longT_snoc A h0 hp z', h]
    rw [hitsT, hitsT, ih (at0 + 1) _ _ h2, endsT_long A P hP (z ++ [c]), endsT_long A P hP (z' ++ [c]), h2]
end Go.Proofs.YtdplflcaanmmiaaGreat

namespace Go.Proofs.YtdplflcaanmmiaaGreat

/-- Each hit is a phrase that ends there. -/
theorem hitsT_mem (P : List (List Nat)) (b : List Nat) : ∀ (at0 : Nat) (z : List Nat) (h : Nat × Nat), h ∈ hitsT P at0 z b → ∃ n y, n < b.length ∧ h = (at0 + n + 1, P.idxOf y) ∧ y ∈ P ∧ y ≠ [] ∧ y <:+ z ++ b.take (n + 1) := by
  induction b with
  | nil => intro _ _ _ h; cases h
  | cons c b ih =>
    intro at0 z h hm
    rw [hitsT, List.mem_append] at hm
    rcases hm with hm | hm
    · obtain ⟨y, hy, e⟩ := List.mem_map.1 hm
      obtain ⟨h1, h2, h3⟩ := (endsT_mem P _ y).1 hy
      exact ⟨0, y, by simp, e.symm, h2, h3, by simpa using h1⟩
    · obtain ⟨n, y, h1, h2, h3, h4, h5⟩ := ih _ _ h hm
      refine ⟨n + 1, y, by simp; omega, by rw [h2]; congr 1; omega, h3, h4, ?_⟩
      rw [List.append_assoc] at h5
      exact h5

/-- Of two hits the latter one ends later, or is shorter. -/
def laterT (P : List (List Nat)) (x y : Nat × Nat) : Prop := x.1 < y.1 ∨ x.1 = y.1 ∧ (P.getD y.2 []).length < (P.getD x.2 []).length

theorem endsT_falls (P : List (List Nat)) (z : List Nat) : (endsT P z).Pairwise (fun x y => y.length < x.length) := by
  induction z with
  | nil => exact List.Pairwise.nil
  | cons c t ih =>
    rw [endsT]
    split
    · rw [List.pairwise_cons]
      refine ⟨fun y hy => ?_, ih⟩
      have := ((endsT_mem P t y).1 hy).1.length_le
      simp only [List.length_cons]
      omega
    · exact ih

theorem getD_idx {P : List (List Nat)} {y : List Nat} (h : y ∈ P) : P.getD (P.idxOf y) [] = y := by
  have h1 : P.idxOf y < P.length := List.idxOf_lt_length_of_mem h
  simp [List.getD, List.getElem?_eq_getElem h1, List.getElem_idxOf]

theorem hitsT_falls (P : List (List Nat)) (b : List Nat) : ∀ (at0 : Nat) (z : List Nat), (hitsT P at0 z b).Pairwise (laterT P) := by
  induction b with
  | nil => intro _ _; exact List.Pairwise.nil
  | cons c b ih =>
    intro at0 z
    rw [hitsT, List.pairwise_append]
    refine ⟨?_, ih _ _, ?_⟩
    · rw [List.pairwise_map]
      refine List.Pairwise.imp_of_mem (fun {x y} hx hy hxy => ?_) (endsT_falls P (z ++ [c]))
      refine .inr ⟨rfl, ?_⟩
      rw [getD_idx ((endsT_mem P _ x).1 hx).2.1, getD_idx ((endsT_mem P _ y).1 hy).2.1]
      exact hxy
    · intro x hx y hy
      obtain ⟨u, _, rfl⟩ := List.mem_map.1 hx
      obtain ⟨n, v, _, rfl, _⟩ := hitsT_mem P b _ _ y hy
      refine .inl ?_
      show at0 + 1 < at0 + 1 + n + 1
      omega

theorem endsT_few (P : List (List Nat)) (m : Nat) (hm : ∀ x ∈ P, x.length ≤ m) (z : List Nat) : (endsT P z).length ≤ m := by
  rcases Nat.lt_or_ge z.length m with h | h
  · have := endsT_length P z; omega
  · have e : z = z.take (z.length - m) ++ z.drop (z.length - m) := (List.take_append_drop _ _).symm
    rw [e, endsT_last P m hm _ _ (by rw [List.length_drop]; omega)]
    have := endsT_length P (z.drop (z.length - m))
    rw [List.length_drop] at this
    omega

/-- How many phrases stand at places of b. -/
def cntT (P : List (List Nat)) (b : List Nat) : Nat := ((List.range b.length).map (fun i => (P.filter (fun s => decide (s <+: b.drop i))).length)).sum

theorem endsT_count (P : List (List Nat)) (z : List Nat) : (endsT P z).length = ((List.range z.length).map (fun i => if z.drop i ∈ P then 1 else 0)).sum := by
  induction z with
  | nil => rfl
  | cons c t ih =>
    rw [endsT, List.length_cons, List.range_succ_eq_map, List.map_cons, List.map_map, List.sum_cons, List.drop_zero]
    have e : (fun i => if (c :: t).drop i ∈ P then 1 else 0) ∘ Nat.succ = fun i => if t.drop i ∈ P then 1 else 0 := by
      funext i
      simp
    rw [e, ← ih]
    split
    · rw [List.length_cons]; omega
    · omega

theorem prefix_snoc (s z : List Nat) (c : Nat) : s <+: z ++ [c] ↔ s <+: z ∨ s = z ++ [c] := by
  constructor
  · rintro ⟨r, e⟩
    rcases List.eq_nil_or_concat r with h | ⟨q, d, h⟩
    · rw [h, List.append_nil] at e; exact .inr e
    · rw [h, List.concat_eq_append, ← List.append_assoc] at e
      exact .inl ⟨q, (List.append_inj' e rfl).1⟩
  · rintro (h | h)
    · exact h.trans (List.prefix_append z [c])
    · rw [h]; exact List.prefix_refl _

theorem filter_or (P : List (List Nat)) (hP : P.Nodup) (p : List Nat → Bool) (x : List Nat) (hx : p x = false) : (P.filter (fun s => p s || decide (s = x))).length = (P.filter p).length + (if x ∈ P then 1 else 0) := by
  induction P with
  | nil => rfl
  | cons a P ih =>
    unfold List.Nodup at hP
    rw [List.pairwise_cons] at hP
    have hi := ih hP.2
    by_cases ha : a = x
    · subst ha
      have hn : a ∉ P := fun h => hP.1 a h rfl
      rw [if_neg hn] at hi
      rw [List.filter_cons_of_pos (by simp), List.filter_cons_of_neg (by simp [hx]), List.length_cons, hi, if_pos (by simp)]
    · have hm : (x ∈ a :: P) ↔ x ∈ P := by
        rw [List.mem_cons]
        exact ⟨fun h => h.elim (fun e => absurd e.symm ha) id, .inr⟩
      by_cases hpa : p a = true
      · rw [List.filter_cons_of_pos (by simp [hpa]), List.filter_cons_of_pos hpa, List.length_cons, List.length_cons, hi]
        simp only [hm]
        omega
      · rw [List.filter_cons_of_neg (by simp [hpa, ha]), List.filter_cons_of_neg hpa, hi]
        simp only [hm]

theorem sum_add (f g : Nat → Nat) (l : List Nat) : (l.map (fun i => f i + g i)).sum = (l.map f).sum + (l.map g).sum := by
  induction l with
  | nil => rfl
  | cons a l ih => simp only [List.map_cons, List.sum_cons, ih]; omega

theorem cntT_snoc (P : List (List Nat)) (hP : P.Nodup) (h0 : [] ∉ P) (b : List Nat) (c : Nat) : cntT P (b ++ [c]) = cntT P b + (endsT P (b ++ [c])).length := by
  unfold cntT
  rw [endsT_count, List.length_append, List.length_singleton]
  have h1 : ∀ i, i ∈ List.range (b.length + 1) → (P.filter (fun s => decide (s <+: (b ++ [c]).drop i))).length = (P.filter (fun s => decide (s <+: b.drop i))).length + (if (b ++ [c]).drop i ∈ P then 1 else 0) := by
    intro i hi
    have hi2 : i ≤ b.length := by have := List.mem_range.1 hi; omega
    have e : (b ++ [c]).drop i = b.drop i ++ [c] := by rw [List.drop_append_of_le_length hi2]
    rw [e]
    have e2 : (fun s : List Nat => decide (s <+: b.drop i ++ [c])) = fun s => (decide (s <+: b.drop i) || decide (s = b.drop i ++ [c])) := by
      funext s
      rw [Bool.eq_iff_iff]
      simp [prefix_snoc]
    rw [e2, filter_or P hP (fun s => decide (s <+: b.drop i)) _ (decide_eq_false (fun h => by have := h.length_le; simp at this; omega))]
  rw [List.map_congr_left h1, sum_add]
  congr 1
  rw [List.range_succ, List.map_append, List.sum_append]
  have h2 : (P.filter (fun s => decide (s <+: b.drop b.length))).length = 0 := by
    rw [List.length_eq_zero_iff, List.filter_eq_nil_iff]
    intro s hs h
    rw [List.drop_length] at h
    have h3 := List.prefix_nil.1 (of_decide_eq_true h)
    exact h0 (h3 ▸ hs)
  rw [List.map_singleton, h2, List.sum_singleton, Nat.add_zero]

theorem hitsT_count (P : List (List Nat)) (hP : P.Nodup) (h0 : [] ∉ P) (b : List Nat) : (hitsT P 0 [] b).length = cntT P b := by
  have key : ∀ n, n ≤ b.length → (hitsT P 0 [] (b.take n)).length = cntT P (b.take n) := by
    intro n
    induction n with
    | zero => intro _; rfl
    | succ n ih =>
      intro hn
      rw [List.take_succ_eq_append_getElem (by omega), hitsT_append, List.length_append, ih (by omega), cntT_snoc P hP h0]
      congr 1
      simp [hitsT]
  have := key b.length (Nat.le_refl _)
  rw [List.take_length] at this
  exact this

/-- Hits as numbers of Go. -/
def asHits (l : List (Nat × Nat)) : List (Int × Int) := l.map (fun h => ((h.1 : Int), (h.2 : Int)))
theorem asHits_append (a b : List (Nat × Nat)) : asHits (a ++ b) = asHits a ++ asHits b := by simp [asHits]
theorem asHits_length (a : List (Nat × Nat)) : (asHits a).length = a.length := by simp [asHits]

theorem hitsT_few (P : List (List Nat)) (m : Nat) (hm : ∀ x ∈ P, x.length ≤ m) (b : List Nat) : ∀ (at0 : Nat) (z : List Nat), (hitsT P at0 z b).length ≤ b.length * m := by
  induction b with
  | nil => intro _ _; simp [hitsT]
  | cons c b ih =>
    intro at0 z
    rw [hitsT, List.length_append, List.length_map, List.length_cons, Nat.succ_mul]
    have h1 := ih (at0 + 1) (z ++ [c])
    have h2 := endsT_few P m hm (z ++ [c])
    omega

end Go.Proofs.YtdplflcaanmmiaaGreat
