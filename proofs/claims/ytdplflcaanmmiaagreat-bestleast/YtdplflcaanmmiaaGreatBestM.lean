/-
  Parsing: the least cost (fewest tokens, then fewest bits), and tokens that keep it. No Go here: lists of numbers alone. Parsing by windows; with more phrases; anew. No Go here: lists of numbers alone. Parsing: the choice among tokens as a program makes it, one after another; places of a window among those of a whole text. No Go here: lists of numbers alone.
-/
import Derived.Test.YtdplflcaanmmiaaGreatParseMath
import Derived.Test.YtdplflcaanmmiaaGreatHitBegin
namespace Go.Proofs.YtdplflcaanmmiaaGreat

/-- Less, and no more, by tokens first. -/
abbrev lt2 (a b : Nat × Nat) : Prop := a.1 < b.1 ∨ a.1 = b.1 ∧ a.2 < b.2
def le2 (a b : Nat × Nat) : Prop := a.1 < b.1 ∨ a.1 = b.1 ∧ a.2 ≤ b.2

theorem le2_refl (a : Nat × Nat) : le2 a a := .inr ⟨rfl, Nat.le_refl _⟩
theorem le2_trans {a b c : Nat × Nat} (h : le2 a b) (k : le2 b c) : le2 a c := by unfold le2 at *; omega
theorem le2_of_lt {a b : Nat × Nat} (h : lt2 a b) : le2 a b := by unfold lt2 at h; unfold le2; omega
theorem le2_of_not {a b : Nat × Nat} (h : ¬ lt2 a b) : le2 b a := by unfold lt2 at h; unfold le2; omega
theorem not_lt_of_le2 {a b : Nat × Nat} (h : le2 a b) : ¬ lt2 b a := by unfold le2 at h; unfold lt2; omega
theorem le2_antisymm {a b : Nat × Nat} (h : le2 a b) (k : le2 b a) : a = b := by
  unfold le2 at *
  exact Prod.ext (by omega) (by omega)

/-- One token more. -/
def add2 (s : Nat) (a : Nat × Nat) : Nat × Nat := (1 + a.1, s + a.2)
theorem add2_le (s : Nat) {a b : Nat × Nat} (h : le2 a b) : le2 (add2 s a) (add2 s b) := by unfold le2 add2 at *; omega

/-- The least of a start and a list, the first of those that are alike. -/
def leastT (c : Nat × Nat) : List (Nat × Nat) → Nat × Nat
  | [] => c
  | x :: l => leastT (if lt2 x c then x else c) l

theorem leastT_le (l : List (Nat × Nat)) : ∀ c, le2 (leastT c l) c ∧ ∀ x ∈ l, le2 (leastT c l) x := by
  induction l with
  | nil => intro c; exact ⟨le2_refl _, fun x hx => by cases hx⟩
  | cons y l ih =>
    intro c
    rw [leastT]
    split
    · rename_i h
      obtain ⟨h1, h2⟩ := ih y
      exact ⟨le2_trans h1 (le2_of_lt h), fun x hx => by
        rcases List.mem_cons.1 hx with rfl | hx
        · exact h1
        · exact h2 x hx⟩
    · rename_i h
      obtain ⟨h1, h2⟩ := ih c
      exact ⟨h1, fun x hx => by
        rcases List.mem_cons.1 hx with rfl | hx
        · exact le2_trans h1 (le2_of_not h)
        · exact h2 x hx⟩

theorem leastT_mem (l : List (Nat × Nat)) : ∀ c, leastT c l = c ∨ leastT c l ∈ l := by
  induction l with
  | nil => intro c; exact .inl rfl
  | cons y l ih =>
    intro c
    rw [leastT]
    split
    · rcases ih y with h | h
      · exact .inr (by rw [h]; simp)
      · exact .inr (List.mem_cons_of_mem _ h)
    · rcases ih c with h | h
      · exact .inl h
      · exact .inr (List.mem_cons_of_mem _ h)

/-- All tokens at the beginning of x, and how many bytes each takes: the longest first, a phrase ahead of the byte. -/
def chT (P : List (List Nat)) (m : Nat) (x : List Nat) : List (Nat × Nat) := (standsT P m x).map (fun n => (tokT P x n, n)) ++ [(x.headD 0, 1)]

theorem chT_mem (P : List (List Nat)) (m : Nat) (hm : ∀ s ∈ P, s.length ≤ m) (x : List Nat) (hx : x ≠ []) (hb : ∀ c ∈ x, c < 256) (t n : Nat) (h : (t, n) ∈ chT P m x) : 1 ≤ n ∧ n ≤ x.length ∧ isT P t ∧ sayT P t = x.take n := by
  unfold chT at h
  rw [List.mem_append] at h
  rcases h with h | h
  · obtain ⟨k, hk, e⟩ := List.mem_map.1 h
    injection e with e1 e2
    subst e2
    have h1 := (standsT_mem P m hm x k).1 hk
    rw [← e1]
    exact ⟨h1.1, h1.2.1, tokT_is P x k hb, tokT_says P x k hb h1.1 h1.2.1 (.inl h1.2.2)⟩
  · rw [List.mem_singleton] at h
    injection h with e1 e2
    subst e1 e2
    cases x with
    | nil => exact absurd rfl hx
    | cons c x =>
      have hc := hb c (by simp)
      refine ⟨Nat.le_refl _, by simp, ?_, ?_⟩
      · unfold isT; show c < _; omega
      · unfold sayT; rw [List.headD_cons, if_pos hc]; rfl

/-- What is behind each place costs at least so much: of all ends of x. -/
def costsT (P : List (List Nat)) (m : Nat) (bt : Nat → Nat) (big : Nat) : List Nat → List (Nat × Nat)
  | [] => [(0, 0)]
  | c :: x => leastT (big, 0) ((chT P m (c :: x)).map (fun h => add2 (bt h.1) ((costsT P m bt big x).getD (h.2 - 1) (0, 0)))) :: costsT P m bt big x

def costT (P : List (List Nat)) (m : Nat) (bt : Nat → Nat) (big : Nat) (x : List Nat) : Nat × Nat := (costsT P m bt big x).headD (0, 0)

theorem costsT_length (P : List (List Nat)) (m : Nat) (bt : Nat → Nat) (big : Nat) (x : List Nat) : (costsT P m bt big x).length = x.length + 1 := by
  induction x with
  | nil => rfl
  | cons c x ih => rw [costsT, List.length_cons, ih, List.length_cons]

/-- What is behind a place costs what it costs by itself. -/
theorem costsT_drop (P : List (List Nat)) (m : Nat) (bt : Nat → Nat) (big : Nat) (x : List Nat) (k : Nat) (hk : k ≤ x.length) : (costsT P m bt big x).drop k = costsT P m bt big (x.drop k) := by
  induction x generalizing k with
  | nil =>
    obtain rfl : k = 0 := by simpa using hk
    rfl
  | cons c x ih =>
    cases k with
    | zero => rfl
    | succ k => rw [costsT, List.drop_succ_cons, List.drop_succ_cons]; exact ih k (by simpa using hk)

theorem costsT_at (P : List (List Nat)) (m : Nat) (bt : Nat → Nat) (big : Nat) (x : List Nat) (k : Nat) (hk : k ≤ x.length) : (costsT P m bt big x).getD k (0, 0) = costT P m bt big (x.drop k) := by
  have h := costsT_drop P m bt big x k hk
  unfold costT
  rw [← h]
  have hl := costsT_length P m bt big x
  rw [List.drop_eq_getElem_cons (by omega)]
  simp [List.getD, List.getElem?_eq_getElem (show k < (costsT P m bt big x).length by omega)]

/-- By one token and what is behind it. -/
theorem costT_by (P : List (List Nat)) (m : Nat) (hm : ∀ s ∈ P, s.length ≤ m) (bt : Nat → Nat) (big : Nat) (x : List Nat) (hx : x ≠ []) (hb : ∀ c ∈ x, c < 256) : costT P m bt big x = leastT (big, 0) ((chT P m x).map (fun h => add2 (bt h.1) (costT P m bt big (x.drop h.2)))) := by
  cases x with
  | nil => exact absurd rfl hx
  | cons c x =>
    show leastT (big, 0) _ = _
    congr 1
    refine List.map_congr_left (fun h hh => ?_)
    have h1 := chT_mem P m hm (c :: x) hx hb h.1 h.2 hh
    simp only [List.length_cons] at h1
    rw [costsT_at P m bt big x (h.2 - 1) (by omega)]
    congr 2
    obtain ⟨k, hk⟩ : ∃ k, h.2 = k + 1 := ⟨h.2 - 1, by omega⟩
    rw [hk]
    rfl

theorem costT_nil (P : List (List Nat)) (m : Nat) (bt : Nat → Nat) (big : Nat) : costT P m bt big [] = (0, 0) := rfl

/-- It costs no more than any token at that place, and what is behind it. -/
theorem costT_le (P : List (List Nat)) (m : Nat) (hm : ∀ s ∈ P, s.length ≤ m) (bt : Nat → Nat) (big : Nat) (x : List Nat) (hx : x ≠ []) (hb : ∀ c ∈ x, c < 256) (h : Nat × Nat) (hh : h ∈ chT P m x) : le2 (costT P m bt big x) (add2 (bt h.1) (costT P m bt big (x.drop h.2))) := by
  rw [costT_by P m hm bt big x hx hb]
  exact (leastT_le _ _).2 _ (List.mem_map.2 ⟨h, hh, rfl⟩)

/-- There are no more tokens than bytes. -/
theorem costT_few (P : List (List Nat)) (m : Nat) (hm : ∀ s ∈ P, s.length ≤ m) (bt : Nat → Nat) (big : Nat) (x : List Nat) (hb : ∀ c ∈ x, c < 256) : (costT P m bt big x).1 ≤ x.length := by
  induction x with
  | nil => exact Nat.le_refl _
  | cons c x ih =>
    have h1 := costT_le P m hm bt big (c :: x) (by simp) hb (c, 1) (by unfold chT; simp)
    have h2 := ih (fun d hd => hb d (List.mem_cons_of_mem _ hd))
    have e : (c :: x).drop 1 = x := rfl
    rw [e] at h1
    unfold le2 add2 at h1
    simp only [List.length_cons]
    omega

/-- And just so much for one of them. -/
theorem costT_kept (P : List (List Nat)) (m : Nat) (hm : ∀ s ∈ P, s.length ≤ m) (bt : Nat → Nat) (big : Nat) (x : List Nat) (hx : x ≠ []) (hb : ∀ c ∈ x, c < 256) (hbig : x.length < big) : ∃ h ∈ chT P m x, costT P m bt big x = add2 (bt h.1) (costT P m bt big (x.drop h.2)) := by
  have h1 := costT_by P m hm bt big x hx hb
  rcases leastT_mem ((chT P m x).map (fun h => add2 (bt h.1) (costT P m bt big (x.drop h.2)))) (big, 0) with h | h
  · exfalso
    rw [h] at h1
    have := costT_few P m hm bt big x hb
    rw [h1] at this
    simp only at this
    omega
  · rw [← h1] at h
    obtain ⟨k, hk, e⟩ := List.mem_map.1 h
    exact ⟨k, hk, e.symm⟩

/-- What tokens cost together. -/
def sumT (bt : Nat → Nat) (ts : List Nat) : Nat × Nat := (ts.length, (ts.map bt).sum)
theorem sumT_cons (bt : Nat → Nat) (t : Nat) (ts : List Nat) : sumT bt (t :: ts) = add2 (bt t) (sumT bt ts) := by
  unfold sumT add2
  simp only [List.length_cons, List.map_cons, List.sum_cons]
  rw [Nat.add_comm]

/-- A token that may be is among those of its place. -/
theorem chT_has (P : List (List Nat)) (m : Nat) (hm : ∀ s ∈ P, s.length ≤ m) (hP : P.Nodup) (h0 : [] ∉ P) (t : Nat) (ht : isT P t) (r : List Nat) : (t, (sayT P t).length) ∈ chT P m (sayT P t ++ r) ∧ 1 ≤ (sayT P t).length := by
  unfold isT at ht
  unfold chT
  rw [List.mem_append]
  by_cases h : t < 256
  · have e : sayT P t = [t] := by unfold sayT; rw [if_pos h]
    rw [e]
    exact ⟨.inr (List.mem_singleton.2 rfl), Nat.le_refl _⟩
  · obtain ⟨k, rfl⟩ : ∃ k, t = 256 + k := ⟨t - 256, by omega⟩
    have hk : k < P.length := by omega
    have e : sayT P (256 + k) = P[k]'hk := by
      unfold sayT
      rw [if_neg h, Nat.add_sub_cancel_left]
      rw [List.getD_eq_getElem?_getD, List.getElem?_eq_getElem hk]
      rfl
    rw [e]
    generalize hy : P[k]'hk = y
    have hmem : y ∈ P := hy ▸ List.getElem_mem hk
    have hne : y ≠ [] := fun h => h0 (h ▸ hmem)
    have hpos : 1 ≤ y.length := List.length_pos_iff.2 hne
    have htk : (y ++ r).take y.length = y := List.take_left
    have hix : P.idxOf y = k := by rw [← hy]; exact List.Nodup.idxOf_getElem hP k hk
    refine ⟨.inl (List.mem_map.2 ⟨y.length, ?_, ?_⟩), hpos⟩
    · rw [standsT_mem P m hm, htk]
      exact ⟨hpos, by simp, hmem⟩
    · unfold tokT
      rw [htk, if_pos hmem, hix]

/-- NO TOKENS THAT MEAN THE SAME COST LESS. -/
theorem costT_least (P : List (List Nat)) (m : Nat) (hm : ∀ s ∈ P, s.length ≤ m) (hP : P.Nodup) (h0 : [] ∉ P) (bt : Nat → Nat) (big : Nat) (ts : List Nat) : (∀ t ∈ ts, isT P t) → (∀ c ∈ meanT P ts, c < 256) → le2 (costT P m bt big (meanT P ts)) (sumT bt ts) := by
  induction ts with
  | nil => intro _ _; exact le2_refl _
  | cons t ts ih =>
    intro ht hb
    rw [meanT_cons] at hb ⊢
    have h1 := chT_has P m hm hP h0 t (ht t (by simp)) (meanT P ts)
    have hne : sayT P t ++ meanT P ts ≠ [] := fun e => by
      have := congrArg List.length e
      simp only [List.length_append, List.length_nil] at this
      omega
    have h2 := costT_le P m hm bt big _ hne hb _ h1.1
    rw [List.drop_left] at h2
    rw [sumT_cons]
    exact le2_trans h2 (add2_le _ (ih (fun u hu => ht u (List.mem_cons_of_mem _ hu)) (fun c hc => hb c (List.mem_append_right _ hc))))

/-- Of the tokens with which the least cost is kept the first. -/
def keepT (P : List (List Nat)) (m : Nat) (bt : Nat → Nat) (big : Nat) (x : List Nat) : Nat × Nat := ((chT P m x).find? (fun h => decide (add2 (bt h.1) (costT P m bt big (x.drop h.2)) = costT P m bt big x))).getD (x.headD 0, 1)

theorem keepT_is (P : List (List Nat)) (m : Nat) (hm : ∀ s ∈ P, s.length ≤ m) (bt : Nat → Nat) (big : Nat) (x : List Nat) (hx : x ≠ []) (hb : ∀ c ∈ x, c < 256) (hbig : x.length < big) : keepT P m bt big x ∈ chT P m x ∧ costT P m bt big x = add2 (bt (keepT P m bt big x).1) (costT P m bt big (x.drop (keepT P m bt big x).2)) := by
  unfold keepT
  cases e : (chT P m x).find? (fun h => decide (add2 (bt h.1) (costT P m bt big (x.drop h.2)) = costT P m bt big x)) with
  | none =>
    exfalso
    obtain ⟨h, hh, e2⟩ := costT_kept P m hm bt big x hx hb hbig
    have := List.find?_eq_none.1 e h hh
    simp at this
    exact this e2.symm
  | some h =>
    have h1 := List.find?_some e
    simp at h1
    exact ⟨List.mem_of_find?_eq_some e, h1.symm⟩

theorem keepT_mem (P : List (List Nat)) (m : Nat) (hm : ∀ s ∈ P, s.length ≤ m) (bt : Nat → Nat) (big : Nat) (x : List Nat) (hx : x ≠ []) (hb : ∀ c ∈ x, c < 256) (hbig : x.length < big) : 1 ≤ (keepT P m bt big x).2 ∧ (keepT P m bt big x).2 ≤ x.length ∧ isT P (keepT P m bt big x).1 ∧ sayT P (keepT P m bt big x).1 = x.take (keepT P m bt big x).2 := by
  have h := (keepT_is P m hm bt big x hx hb hbig).1
  generalize keepT P m bt big x = k at h
  exact chT_mem P m hm x hx hb k.1 k.2 h

/-- A text parsed by the least cost: f rounds at most. -/
def bestF (P : List (List Nat)) (m : Nat) (bt : Nat → Nat) (big : Nat) : Nat → List Nat → List Nat
  | 0, _ => []
  | _ + 1, [] => []
  | f + 1, c :: x => (keepT P m bt big (c :: x)).1 :: bestF P m bt big f ((c :: x).drop (keepT P m bt big (c :: x)).2)

theorem bestF_nil (P : List (List Nat)) (m : Nat) (bt : Nat → Nat) (big : Nat) (f : Nat) : bestF P m bt big f [] = [] := by cases f <;> rfl

theorem bestF_fuel (P : List (List Nat)) (m : Nat) (hm : ∀ s ∈ P, s.length ≤ m) (bt : Nat → Nat) (big : Nat) : ∀ (f f2 : Nat) (x : List Nat), (∀ c ∈ x, c < 256) → x.length < big → x.length ≤ f → x.length ≤ f2 → bestF P m bt big f x = bestF P m bt big f2 x := by
  intro f
  induction f with
  | zero =>
    intro f2 x _ _ h _
    have : x = [] := List.eq_nil_of_length_eq_zero (by omega)
    subst this
    rw [bestF_nil, bestF_nil]
  | succ f ih =>
    intro f2 x hb hbig h h2
    cases x with
    | nil => rw [bestF_nil, bestF_nil]
    | cons c x =>
      cases f2 with
      | zero => simp at h2
      | succ f2 =>
        have h1 := keepT_mem P m hm bt big (c :: x) (by simp) hb hbig
        have hd : ((c :: x).drop (keepT P m bt big (c :: x)).2).length ≤ x.length := by rw [List.length_drop]; simp only [List.length_cons]; omega
        simp only [List.length_cons] at h h2 hbig
        rw [bestF, bestF, ih f2 _ (fun d hd => hb d (List.mem_of_mem_drop hd)) (by omega) (by omega) (by omega)]

/-- A text parsed by the least cost. -/
def bestT (P : List (List Nat)) (m : Nat) (bt : Nat → Nat) (big : Nat) (x : List Nat) : List Nat := bestF P m bt big x.length x

theorem bestT_cons (P : List (List Nat)) (m : Nat) (hm : ∀ s ∈ P, s.length ≤ m) (bt : Nat → Nat) (big : Nat) (x : List Nat) (hx : x ≠ []) (hb : ∀ c ∈ x, c < 256) (hbig : x.length < big) : bestT P m bt big x = (keepT P m bt big x).1 :: bestT P m bt big (x.drop (keepT P m bt big x).2) := by
  cases x with
  | nil => exact absurd rfl hx
  | cons c x =>
    have h1 := keepT_mem P m hm bt big (c :: x) hx hb hbig
    have hd : ((c :: x).drop (keepT P m bt big (c :: x)).2).length ≤ x.length := by rw [List.length_drop]; simp only [List.length_cons]; omega
    simp only [List.length_cons] at hbig
    unfold bestT
    rw [List.length_cons, bestF, bestF_fuel P m hm bt big x.length _ _ (fun d hd => hb d (List.mem_of_mem_drop hd)) (by omega) hd (Nat.le_refl _)]

/-- The tokens mean the text, and cost just the least. -/
theorem bestT_right (P : List (List Nat)) (m : Nat) (hm : ∀ s ∈ P, s.length ≤ m) (bt : Nat → Nat) (big : Nat) : ∀ (n : Nat) (x : List Nat), x.length ≤ n → (∀ c ∈ x, c < 256) → x.length < big → meanT P (bestT P m bt big x) = x ∧ sumT bt (bestT P m bt big x) = costT P m bt big x ∧ ∀ t ∈ bestT P m bt big x, isT P t := by
  intro n
  induction n with
  | zero =>
    intro x h _ _
    have : x = [] := List.eq_nil_of_length_eq_zero (by omega)
    subst this
    exact ⟨rfl, rfl, fun t ht => by cases ht⟩
  | succ n ih =>
    intro x h hb hbig
    by_cases hx : x = []
    · subst hx
      exact ⟨rfl, rfl, fun t ht => by cases ht⟩
    · have h2 := (keepT_is P m hm bt big x hx hb hbig).2
      obtain ⟨h3, h4, h5, h6⟩ := keepT_mem P m hm bt big x hx hb hbig
      obtain ⟨i1, i2, i3⟩ := ih (x.drop (keepT P m bt big x).2) (by rw [List.length_drop]; omega) (fun d hd => hb d (List.mem_of_mem_drop hd)) (by rw [List.length_drop]; omega)
      rw [bestT_cons P m hm bt big x hx hb hbig]
      refine ⟨by rw [meanT_cons, i1, h6, List.take_append_drop], by rw [sumT_cons, i2, ← h2], fun t ht => ?_⟩
      rcases List.mem_cons.1 ht with rfl | ht
      · exact h5
      · exact i3 t ht
end Go.Proofs.YtdplflcaanmmiaaGreat

namespace Go.Proofs.YtdplflcaanmmiaaGreat

section
variable (P : List (List Nat)) (m : Nat) (hm : ∀ s ∈ P, s.length ≤ m) (bt : Nat → Nat) (big : Nat)

/-- What two costs are together. -/
def plus2 (a b : Nat × Nat) : Nat × Nat := (a.1 + b.1, a.2 + b.2)
theorem plus2_le {a b c d : Nat × Nat} (h : le2 a b) (k : le2 c d) : le2 (plus2 a c) (plus2 b d) := by unfold le2 plus2 at *; omega
theorem sumT_append (a b : List Nat) : sumT bt (a ++ b) = plus2 (sumT bt a) (sumT bt b) := by
  unfold sumT plus2
  simp

include hm in
theorem bestT_length (x : List Nat) (hb : ∀ c ∈ x, c < 256) (hbig : x.length < big) : (bestT P m bt big x).length = (costT P m bt big x).1 := by
  have := (bestT_right P m hm bt big x.length x (Nat.le_refl _) hb hbig).2.1
  rw [← this]
  rfl

include hm in
/-- No tokens that mean a text are fewer, or cost less, than its own. -/
theorem bestT_least (hP : P.Nodup) (h0 : [] ∉ P) (ts : List Nat) (ht : ∀ t ∈ ts, isT P t) (hb : ∀ c ∈ meanT P ts, c < 256) (hbig : (meanT P ts).length < big) : le2 (sumT bt (bestT P m bt big (meanT P ts))) (sumT bt ts) ∧ (bestT P m bt big (meanT P ts)).length ≤ ts.length := by
  have h1 := costT_least P m hm hP h0 bt big ts ht hb
  have h2 := (bestT_right P m hm bt big _ (meanT P ts) (Nat.le_refl _) hb hbig).2.1
  rw [h2]
  refine ⟨h1, ?_⟩
  rw [bestT_length P m hm bt big _ hb hbig]
  unfold le2 sumT at h1
  simp only at h1
  omega

/-- By windows of w bytes: f of them at most. -/
def winF (w : Nat) : Nat → List Nat → List Nat
  | 0, _ => []
  | _ + 1, [] => []
  | f + 1, c :: x => bestT P m bt big ((c :: x).take w) ++ winF w f ((c :: x).drop w)

theorem winF_nil (w f : Nat) : winF P m bt big w f [] = [] := by cases f <;> rfl

theorem winF_fuel (w : Nat) (hw : 0 < w) : ∀ (f f2 : Nat) (x : List Nat), x.length ≤ f → x.length ≤ f2 → winF P m bt big w f x = winF P m bt big w f2 x := by
  intro f
  induction f with
  | zero =>
    intro f2 x h _
    have : x = [] := List.eq_nil_of_length_eq_zero (by omega)
    subst this
    rw [winF_nil, winF_nil]
  | succ f ih =>
    intro f2 x h h2
    cases x with
    | nil => rw [winF_nil, winF_nil]
    | cons c x =>
      cases f2 with
      | zero => simp at h2
      | succ f2 =>
        have hd : ((c :: x).drop w).length ≤ x.length := by rw [List.length_drop]; simp only [List.length_cons]; omega
        simp only [List.length_cons] at h h2
        rw [winF, winF, ih f2 _ (by omega) (by omega)]

/-- A text by windows of w bytes. -/
def winT (w : Nat) (x : List Nat) : List Nat := winF P m bt big w x.length x

theorem winT_nil (w : Nat) : winT P m bt big w [] = [] := rfl

theorem winT_cons (w : Nat) (hw : 0 < w) (x : List Nat) (hx : x ≠ []) : winT P m bt big w x = bestT P m bt big (x.take w) ++ winT P m bt big w (x.drop w) := by
  cases x with
  | nil => exact absurd rfl hx
  | cons c x =>
    have hd : ((c :: x).drop w).length ≤ x.length := by rw [List.length_drop]; simp only [List.length_cons]; omega
    unfold winT
    rw [List.length_cons, winF, winF_fuel P m bt big w hw x.length _ _ hd (Nat.le_refl _)]

theorem drop_ind (w : Nat) (hw : 0 < w) {Q : List Nat → Prop} (h0 : Q []) (h1 : ∀ x, x ≠ [] → Q (x.drop w) → Q x) : ∀ x, Q x := by
  have key : ∀ n (x : List Nat), x.length ≤ n → Q x := by
    intro n
    induction n with
    | zero => intro x h; have : x = [] := List.eq_nil_of_length_eq_zero (by omega); subst this; exact h0
    | succ n ih =>
      intro x h
      by_cases hx : x = []
      · subst hx; exact h0
      · refine h1 x hx (ih _ ?_)
        have : 0 < x.length := List.length_pos_iff.2 hx
        rw [List.length_drop]
        omega
  exact fun x => key x.length x (Nat.le_refl _)

include hm in
theorem winT_means (w : Nat) (hw : 0 < w) : ∀ x : List Nat, (∀ c ∈ x, c < 256) → x.length < big → meanT P (winT P m bt big w x) = x ∧ ∀ t ∈ winT P m bt big w x, isT P t := by
  refine drop_ind w hw (fun _ _ => ⟨rfl, fun t ht => by cases ht⟩) (fun x hx ih hb hbig => ?_)
  obtain ⟨i1, i2⟩ := ih (fun c hc => hb c (List.mem_of_mem_drop hc)) (by rw [List.length_drop]; omega)
  obtain ⟨h1, _, h3⟩ := bestT_right P m hm bt big _ (x.take w) (Nat.le_refl _) (fun c hc => hb c (List.mem_of_mem_take hc)) (by rw [List.length_take]; omega)
  rw [winT_cons P m bt big w hw x hx]
  refine ⟨by rw [meanT_append, h1, i1, List.take_append_drop], fun t ht => ?_⟩
  rcases List.mem_append.1 ht with h | h
  · exact h3 t h
  · exact i2 t h

/-- Cut at a multiple of the window. -/
theorem winT_split (w : Nat) (hw : 0 < w) (n : Nat) : ∀ x : List Nat, winT P m bt big w x = winT P m bt big w (x.take (w * n)) ++ winT P m bt big w (x.drop (w * n)) := by
  induction n with
  | zero => intro x; simp [winT_nil]
  | succ n ih =>
    intro x
    by_cases hx : x = []
    · subst hx; simp [winT_nil]
    · have hlen : 0 < x.length := List.length_pos_iff.2 hx
      have hne : x.take (w * (n + 1)) ≠ [] := fun e => by
        have := congrArg List.length e
        rw [List.length_take, List.length_nil, Nat.mul_succ] at this
        omega
      rw [winT_cons P m bt big w hw x hx, winT_cons P m bt big w hw _ hne, ih (x.drop w), List.append_assoc]
      have e1 : (x.take (w * (n + 1))).take w = x.take w := by rw [List.take_take, Nat.min_eq_left (by rw [Nat.mul_succ]; omega)]
      have e2 : (x.take (w * (n + 1))).drop w = (x.drop w).take (w * n) := by rw [List.drop_take, Nat.mul_succ, Nat.add_sub_cancel]
      have e3 : (x.drop w).drop (w * n) = x.drop (w * (n + 1)) := by rw [List.drop_drop, Nat.mul_succ, Nat.add_comm]
      rw [e1, e2, e3]

include hm in
/-- A greater window, of which the lesser one is a part, never costs more. -/
theorem winT_greater (hP : P.Nodup) (h0 : [] ∉ P) (w n : Nat) (hw : 0 < w) (hn : 0 < n) : ∀ x : List Nat, (∀ c ∈ x, c < 256) → x.length < big → le2 (sumT bt (winT P m bt big (w * n) x)) (sumT bt (winT P m bt big w x)) := by
  have hW : 0 < w * n := Nat.mul_pos hw hn
  refine drop_ind (w * n) hW (fun _ _ => le2_refl _) (fun x hx ih hb hbig => ?_)
  have i1 := ih (fun c hc => hb c (List.mem_of_mem_drop hc)) (by rw [List.length_drop]; omega)
  have hbt : ∀ c ∈ x.take (w * n), c < 256 := fun c hc => hb c (List.mem_of_mem_take hc)
  have hbl : (x.take (w * n)).length < big := by rw [List.length_take]; omega
  obtain ⟨h1, h2⟩ := winT_means P m hm bt big w hw (x.take (w * n)) hbt hbl
  have h3 := (bestT_least P m hm bt big hP h0 (winT P m bt big w (x.take (w * n))) h2 (by rw [h1]; exact hbt) (by rw [h1]; exact hbl)).1
  rw [h1] at h3
  rw [winT_cons P m bt big (w * n) hW x hx, winT_split P m bt big w hw n x, sumT_append, sumT_append]
  exact plus2_le h3 i1

/-- One window is the text by itself. -/
theorem winT_one (w : Nat) (hw : 0 < w) (x : List Nat) (h : x.length ≤ w) : winT P m bt big w x = bestT P m bt big x := by
  by_cases hx : x = []
  · subst hx; rfl
  · rw [winT_cons P m bt big w hw x hx, List.take_of_length_le h, List.drop_eq_nil_of_le h, winT_nil, List.append_nil]
end

/-- With one phrase more tokens mean what they meant. -/
theorem meanT_more (P : List (List Nat)) (s : List Nat) (ts : List Nat) (ht : ∀ t ∈ ts, isT P t) : meanT (P ++ [s]) ts = meanT P ts := by
  induction ts with
  | nil => rfl
  | cons t ts ih =>
    rw [meanT_cons, meanT_cons, ih (fun u hu => ht u (List.mem_cons_of_mem _ hu))]
    congr 1
    have h1 := ht t (by simp)
    unfold isT at h1
    unfold sayT
    by_cases h : t < 256
    · rw [if_pos h, if_pos h]
    · obtain ⟨k, rfl⟩ : ∃ k, t = 256 + k := ⟨t - 256, by omega⟩
      rw [if_neg h, if_neg h, Nat.add_sub_cancel_left, List.getD_eq_getElem?_getD, List.getD_eq_getElem?_getD, List.getElem?_append_left (by omega)]

/-- With more phrases no more tokens are needed. -/
theorem bestT_more (P : List (List Nat)) (s : List Nat) (m : Nat) (hm : ∀ t ∈ P ++ [s], t.length ≤ m) (hP : (P ++ [s]).Nodup) (h0 : [] ∉ P ++ [s]) (bt : Nat → Nat) (big : Nat) (x : List Nat) (hb : ∀ c ∈ x, c < 256) (hbig : x.length < big) : (bestT (P ++ [s]) m bt big x).length ≤ (bestT P m bt big x).length := by
  obtain ⟨h1, _, h3⟩ := bestT_right P m (fun t ht => hm t (List.mem_append_left _ ht)) bt big _ x (Nat.le_refl _) hb hbig
  have h4 := meanT_more P s _ h3
  rw [h1] at h4
  have h5 := (bestT_least (P ++ [s]) m hm bt big hP h0 (bestT P m bt big x) (fun t ht => by have := h3 t ht; unfold isT at *; rw [List.length_append]; omega) (by rw [h4]; exact hb) (by rw [h4]; exact hbig)).2
  rw [h4] at h5
  exact h5
end Go.Proofs.YtdplflcaanmmiaaGreat

namespace Go.Proofs.YtdplflcaanmmiaaGreat

/-- The first of those whose cost is least, and that cost: one after another, from a start. -/
def pickT (c : (Nat × Nat) × (Nat × Nat)) : List ((Nat × Nat) × (Nat × Nat)) → (Nat × Nat) × (Nat × Nat)
  | [] => c
  | x :: l => pickT (if lt2 x.2 c.2 then x else c) l

theorem pickT_snoc (l : List ((Nat × Nat) × (Nat × Nat))) (x : (Nat × Nat) × (Nat × Nat)) : ∀ c, pickT c (l ++ [x]) = if lt2 x.2 (pickT c l).2 then x else pickT c l := by
  induction l with
  | nil => intro c; rfl
  | cons y l ih => intro c; rw [List.cons_append, pickT, ih, pickT]

theorem pickT_least (l : List ((Nat × Nat) × (Nat × Nat))) : ∀ c, (pickT c l).2 = leastT c.2 (l.map Prod.snd) := by
  induction l with
  | nil => intro c; rfl
  | cons y l ih =>
    intro c
    rw [pickT, List.map_cons, leastT, ih]
    congr 1
    split <;> rfl

theorem pickT_stay (l : List ((Nat × Nat) × (Nat × Nat))) : ∀ c, (pickT c l).2 = c.2 → pickT c l = c := by
  induction l with
  | nil => intro c _; rfl
  | cons y l ih =>
    intro c h
    rw [pickT] at h ⊢
    by_cases hy : lt2 y.2 c.2
    · rw [if_pos hy] at h
      exfalso
      have h1 := (leastT_le (l.map Prod.snd) y.2).1
      rw [← pickT_least, h] at h1
      exact not_lt_of_le2 h1 hy
    · rw [if_neg hy] at h ⊢
      exact ih c h

theorem pickT_first (l : List ((Nat × Nat) × (Nat × Nat))) : ∀ c, (pickT c l).2 ≠ c.2 → l.find? (fun x => decide (x.2 = (pickT c l).2)) = some (pickT c l) := by
  induction l with
  | nil => intro c h; exact absurd rfl h
  | cons y l ih =>
    intro c h
    rw [pickT] at h ⊢
    by_cases hy : lt2 y.2 c.2
    · rw [if_pos hy] at h ⊢
      by_cases he : (pickT y l).2 = y.2
      · rw [pickT_stay l y he, List.find?_cons_of_pos (by simp)]
      · rw [List.find?_cons_of_neg (by simp; exact fun e => he e.symm)]
        exact ih y he
    · rw [if_neg hy] at h ⊢
      have h1 : le2 (pickT c l).2 c.2 := by rw [pickT_least]; exact (leastT_le _ _).1
      have h2 : y.2 ≠ (pickT c l).2 := by
        intro e
        rw [← e] at h1 h
        rcases h1 with h1 | h1
        · exact hy (.inl h1)
        · by_cases h3 : y.2.2 = c.2.2
          · exact h (Prod.ext h1.1 h3)
          · exact hy (.inr ⟨h1.1, by omega⟩)
      rw [List.find?_cons_of_neg (by simp; exact h2)]
      exact ih c h

/-- Where one of them costs less than each of two starts, the start is nothing to it. -/
theorem leastT_start (l : List (Nat × Nat)) (c d x : Nat × Nat) (hx : x ∈ l) (hc : lt2 x c) (hd : lt2 x d) : leastT c l = leastT d l := by
  have h1 := leastT_le l c
  have h2 := leastT_le l d
  have m1 : leastT c l ∈ l := (leastT_mem l c).elim (fun e => by
    exfalso
    have := h1.2 x hx
    rw [e] at this
    exact not_lt_of_le2 this hc) id
  have m2 : leastT d l ∈ l := (leastT_mem l d).elim (fun e => by
    exfalso
    have := h2.2 x hx
    rw [e] at this
    exact not_lt_of_le2 this hd) id
  exact le2_antisymm (h1.2 _ m2) (h2.2 _ m1)

/-- The phrases of a window are those of the whole that do not lead out of it. -/
theorem standsT_take (P : List (List Nat)) (m : Nat) (hm : ∀ s ∈ P, s.length ≤ m) (x : List Nat) (r : Nat) : (standsT P m x).filter (fun n => decide (n ≤ r)) = standsT P m (x.take r) := by
  refine falling_once id _ _ ((standsT_falls P m x).filter _) (standsT_falls P m _) (fun n => ?_)
  rw [List.mem_filter, standsT_mem P m hm, standsT_mem P m hm, decide_eq_true_eq, List.length_take]
  constructor
  · rintro ⟨⟨h1, h2, h3⟩, h4⟩
    exact ⟨h1, by omega, by rw [List.take_take, Nat.min_eq_left h4]; exact h3⟩
  · rintro ⟨h1, h2, h3⟩
    have h4 : n ≤ r := by omega
    rw [List.take_take, Nat.min_eq_left h4] at h3
    exact ⟨⟨h1, by omega, h3⟩, h4⟩

theorem chT_take (P : List (List Nat)) (m : Nat) (hm : ∀ s ∈ P, s.length ≤ m) (x : List Nat) (r : Nat) (hr : 1 ≤ r) : (chT P m x).filter (fun h => decide (h.2 ≤ r)) = chT P m (x.take r) := by
  unfold chT
  rw [List.filter_append, List.filter_map, ← standsT_take P m hm x r]
  congr 1
  · refine (List.map_congr_left (fun n hn => ?_)).trans rfl
    have h := (List.mem_filter.1 hn).2
    simp only [Function.comp, decide_eq_true_eq] at h
    unfold tokT
    rw [List.take_take, Nat.min_eq_left h]
    cases x with
    | nil => simp
    | cons c t =>
      obtain ⟨q, rfl⟩ : ∃ q, r = q + 1 := ⟨r - 1, by omega⟩
      rfl
  · rw [List.filter_cons_of_pos (by simp; exact hr), List.filter_nil]
    cases x with
    | nil => simp
    | cons c t =>
      obtain ⟨q, rfl⟩ : ∃ q, r = q + 1 := ⟨r - 1, by omega⟩
      rfl

/-- The choice of a program at the beginning of x, from what costs all that is above all. -/
def pickX (P : List (List Nat)) (m : Nat) (bt : Nat → Nat) (big : Nat) (x : List Nat) : (Nat × Nat) × (Nat × Nat) := pickT ((0, 0), (big, big)) ((chT P m x).map (fun h => (h, add2 (bt h.1) (costT P m bt big (x.drop h.2)))))

theorem pickX_is (P : List (List Nat)) (m : Nat) (hm : ∀ s ∈ P, s.length ≤ m) (bt : Nat → Nat) (big : Nat) (x : List Nat) (hx : x ≠ []) (hb : ∀ c ∈ x, c < 256) (hbig : x.length < big) : pickX P m bt big x = (keepT P m bt big x, costT P m bt big x) := by
  have hsome : (x.headD 0, 1) ∈ chT P m x := by unfold chT; simp
  have hlt : (add2 (bt (x.headD 0)) (costT P m bt big (x.drop 1))).1 < big := by
    have := costT_few P m hm bt big (x.drop 1) (fun c hc => hb c (List.mem_of_mem_drop hc))
    rw [List.length_drop] at this
    have h0 : 0 < x.length := List.length_pos_iff.2 hx
    unfold add2
    simp only
    omega
  have h2 : (pickX P m bt big x).2 = costT P m bt big x := by
    unfold pickX
    rw [pickT_least, List.map_map, costT_by P m hm bt big x hx hb]
    exact leastT_start _ _ _ (add2 (bt (x.headD 0)) (costT P m bt big (x.drop 1))) (List.mem_map.2 ⟨_, hsome, rfl⟩) (.inl hlt) (.inl hlt)
  have hne : (pickX P m bt big x).2 ≠ (big, big) := by
    intro e
    rw [h2] at e
    have := costT_few P m hm bt big x hb
    rw [e] at this
    simp only at this
    omega
  have h3 := pickT_first ((chT P m x).map (fun h => (h, add2 (bt h.1) (costT P m bt big (x.drop h.2))))) ((0, 0), (big, big)) hne
  have h4 : (pickT ((0, 0), (big, big)) ((chT P m x).map (fun h => (h, add2 (bt h.1) (costT P m bt big (x.drop h.2)))))).2 = costT P m bt big x := h2
  rw [h4, List.find?_map] at h3
  refine Prod.ext ?_ h2
  unfold keepT
  have e2 : ((fun x_1 : (Nat × Nat) × (Nat × Nat) => decide (x_1.2 = costT P m bt big x)) ∘ fun h : Nat × Nat => (h, add2 (bt h.1) (costT P m bt big (x.drop h.2)))) = (fun h => decide (add2 (bt h.1) (costT P m bt big (x.drop h.2)) = costT P m bt big x)) := rfl
  rw [e2] at h3
  cases e : (chT P m x).find? (fun h => decide (add2 (bt h.1) (costT P m bt big (x.drop h.2)) = costT P m bt big x)) with
  | none => rw [e] at h3; cases h3
  | some h =>
    rw [e, Option.map_some] at h3
    injection h3 with h3
    show (pickT _ _).1 = h
    rw [← h3]

/-- Bits of a cost. -/
theorem costT_bits (P : List (List Nat)) (m : Nat) (hm : ∀ s ∈ P, s.length ≤ m) (bt : Nat → Nat) (big M : Nat) (hM : ∀ t, bt t ≤ M) : ∀ (n : Nat) (x : List Nat), x.length ≤ n → (∀ c ∈ x, c < 256) → x.length < big → (costT P m bt big x).2 ≤ M * x.length := by
  intro n x hn hb hbig
  obtain ⟨h1, h2, h3⟩ := bestT_right P m hm bt big n x hn hb hbig
  have h4 := costT_few P m hm bt big x hb
  rw [← h2] at h4 ⊢
  unfold sumT at h4 ⊢
  simp only at h4 ⊢
  refine Nat.le_trans ?_ (Nat.mul_le_mul_left M h4)
  generalize bestT P m bt big x = ts
  induction ts with
  | nil => simp
  | cons t ts ih =>
    rw [List.map_cons, List.sum_cons, List.length_cons, Nat.mul_succ]
    have := hM t
    omega
end Go.Proofs.YtdplflcaanmmiaaGreat
