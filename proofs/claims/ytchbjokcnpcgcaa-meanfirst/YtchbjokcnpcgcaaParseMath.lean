/-
  Parsing: which phrases stand at a place, tokens, what they mean; greedy. No Go here: lists of numbers alone.
-/
import Derived.Test.YtchbjokcnpcgcaaTrieMath
namespace Go.Proofs.Ytchbjokcnpcgcaa

/-- The lengths of the phrases that stand at the beginning of x, the greatest first; none is looked for beyond m. -/
def standsT (P : List (List Nat)) (m : Nat) (x : List Nat) : List Nat := ((List.range' 1 (min m x.length)).reverse).filter (fun n => decide (x.take n ∈ P))

theorem standsT_mem (P : List (List Nat)) (m : Nat) (hm : ∀ s ∈ P, s.length ≤ m) (x : List Nat) (n : Nat) : n ∈ standsT P m x ↔ 1 ≤ n ∧ n ≤ x.length ∧ x.take n ∈ P := by
  unfold standsT
  rw [List.mem_filter, List.mem_reverse, List.mem_range'_1, decide_eq_true_eq]
  constructor
  · rintro ⟨h1, h2⟩; exact ⟨h1.1, by omega, h2⟩
  · rintro ⟨h1, h2, h3⟩
    have := hm _ h3
    rw [List.length_take] at this
    exact ⟨by omega, h3⟩

theorem standsT_falls (P : List (List Nat)) (m : Nat) (x : List Nat) : (standsT P m x).Pairwise (fun a b => b < a) := by
  unfold standsT
  refine List.Pairwise.filter _ ?_
  rw [List.pairwise_reverse]
  exact List.pairwise_lt_range' 1

/-- How many bytes the longest token takes. -/
def firstT (P : List (List Nat)) (m : Nat) (x : List Nat) : Nat := (standsT P m x).headD 1

/-- The token of n bytes at the beginning of x: the phrase, or the byte. -/
def tokT (P : List (List Nat)) (x : List Nat) (n : Nat) : Nat := if x.take n ∈ P then 256 + P.idxOf (x.take n) else x.headD 0

/-- What a token means. -/
def sayT (P : List (List Nat)) (t : Nat) : List Nat := if t < 256 then [t] else P.getD (t - 256) []

/-- Is it a token? -/
def isT (P : List (List Nat)) (t : Nat) : Prop := t < 256 + P.length

/-- What tokens mean together. -/
def meanT (P : List (List Nat)) (ts : List Nat) : List Nat := ts.flatMap (sayT P)

theorem meanT_nil (P : List (List Nat)) : meanT P [] = [] := rfl
theorem meanT_cons (P : List (List Nat)) (t : Nat) (ts : List Nat) : meanT P (t :: ts) = sayT P t ++ meanT P ts := rfl
theorem meanT_append (P : List (List Nat)) (a b : List Nat) : meanT P (a ++ b) = meanT P a ++ meanT P b := by simp [meanT]

theorem firstT_pos (P : List (List Nat)) (m : Nat) (hm : ∀ s ∈ P, s.length ≤ m) (x : List Nat) (hx : x ≠ []) : 1 ≤ firstT P m x ∧ firstT P m x ≤ x.length := by
  unfold firstT
  cases e : standsT P m x with
  | nil =>
    have : 0 < x.length := List.length_pos_iff.2 hx
    exact ⟨Nat.le_refl _, by show 1 ≤ _; omega⟩
  | cons a l =>
    have := (standsT_mem P m hm x a).1 (by rw [e]; simp)
    exact ⟨this.1, this.2.1⟩

theorem tokT_is (P : List (List Nat)) (x : List Nat) (n : Nat) (hb : ∀ c ∈ x, c < 256) : isT P (tokT P x n) := by
  unfold isT tokT
  split
  · rename_i h
    have := List.idxOf_lt_length_of_mem h
    omega
  · cases x with
    | nil => show 0 < _; omega
    | cons c t => have := hb c (by simp); show c < _; omega

theorem sayT_phrase (P : List (List Nat)) (y : List Nat) (h : y ∈ P) : sayT P (256 + P.idxOf y) = y := by
  unfold sayT
  have h1 : P.idxOf y < P.length := List.idxOf_lt_length_of_mem h
  rw [if_neg (by omega), Nat.add_sub_cancel_left]
  simp [List.getD, List.getElem?_eq_getElem h1, List.getElem_idxOf]

/-- The token at a place means what stands there. -/
theorem tokT_says (P : List (List Nat)) (x : List Nat) (n : Nat) (hb : ∀ c ∈ x, c < 256) (hn : 1 ≤ n) (hl : n ≤ x.length) (h : x.take n ∈ P ∨ n = 1) : sayT P (tokT P x n) = x.take n := by
  unfold tokT
  split
  · rename_i hm
    exact sayT_phrase P _ hm
  · rename_i hm
    have h1 : n = 1 := h.elim (fun h => absurd h hm) id
    subst h1
    cases x with
    | nil => simp at hl
    | cons c t =>
      have := hb c (by simp)
      unfold sayT
      rw [List.headD_cons, if_pos this]
      rfl

theorem firstT_stands (P : List (List Nat)) (m : Nat) (hm : ∀ s ∈ P, s.length ≤ m) (x : List Nat) : x.take (firstT P m x) ∈ P ∨ firstT P m x = 1 := by
  unfold firstT
  cases e : standsT P m x with
  | nil => exact .inr rfl
  | cons a l => exact .inl ((standsT_mem P m hm x a).1 (by rw [e]; simp)).2.2

/-- No phrase that stands there is longer. -/
theorem firstT_longest (P : List (List Nat)) (m : Nat) (x : List Nat) (n : Nat) (h : n ∈ standsT P m x) : n ≤ firstT P m x := by
  have h1 := standsT_falls P m x
  unfold firstT
  cases e : standsT P m x with
  | nil => rw [e] at h; cases h
  | cons a l =>
    rw [e] at h h1
    rw [List.pairwise_cons] at h1
    rcases List.mem_cons.1 h with rfl | h2
    · exact Nat.le_refl _
    · exact Nat.le_of_lt (h1.1 n h2)

/-- A way of parsing by how many bytes are taken: f rounds at most. -/
def parseT (P : List (List Nat)) (g : List Nat → Nat) : Nat → List Nat → List Nat
  | 0, _ => []
  | _ + 1, [] => []
  | f + 1, c :: x => tokT P (c :: x) (g (c :: x)) :: parseT P g f ((c :: x).drop (g (c :: x)))

/-- Which takes at least one byte, and no more than there are; a phrase, or one byte. -/
def Takes (P : List (List Nat)) (g : List Nat → Nat) : Prop := ∀ x, x ≠ [] → 1 ≤ g x ∧ g x ≤ x.length ∧ (x.take (g x) ∈ P ∨ g x = 1)

theorem parseT_nil (P : List (List Nat)) (g : List Nat → Nat) (f : Nat) : parseT P g f [] = [] := by cases f <;> rfl

theorem parseT_fuel (P : List (List Nat)) (g : List Nat → Nat) (hg : Takes P g) : ∀ (f f2 : Nat) (x : List Nat), x.length ≤ f → x.length ≤ f2 → parseT P g f x = parseT P g f2 x := by
  intro f
  induction f with
  | zero =>
    intro f2 x h _
    have : x = [] := List.eq_nil_of_length_eq_zero (by omega)
    subst this
    rw [parseT_nil, parseT_nil]
  | succ f ih =>
    intro f2 x h h2
    cases x with
    | nil => rw [parseT_nil, parseT_nil]
    | cons c x =>
      cases f2 with
      | zero => simp at h2
      | succ f2 =>
        have h1 := hg (c :: x) (by simp)
        have hd : ((c :: x).drop (g (c :: x))).length ≤ x.length := by rw [List.length_drop]; simp only [List.length_cons]; omega
        simp only [List.length_cons] at h h2
        rw [parseT, parseT, ih f2 _ (by omega) (by omega)]

/-- A text parsed. -/
def parsT (P : List (List Nat)) (g : List Nat → Nat) (x : List Nat) : List Nat := parseT P g x.length x

theorem parsT_nil (P : List (List Nat)) (g : List Nat → Nat) : parsT P g [] = [] := rfl

theorem parsT_cons (P : List (List Nat)) (g : List Nat → Nat) (hg : Takes P g) (x : List Nat) (hx : x ≠ []) : parsT P g x = tokT P x (g x) :: parsT P g (x.drop (g x)) := by
  cases x with
  | nil => exact absurd rfl hx
  | cons c x =>
    have h1 := hg (c :: x) hx
    have hd : ((c :: x).drop (g (c :: x))).length ≤ x.length := by rw [List.length_drop]; simp only [List.length_cons]; omega
    unfold parsT
    rw [List.length_cons, parseT, parseT_fuel P g hg x.length _ _ hd (Nat.le_refl _)]

/-- By induction over what is left. -/
theorem parsT_ind (P : List (List Nat)) (g : List Nat → Nat) (hg : Takes P g) {Q : List Nat → Prop} (h0 : Q []) (h1 : ∀ x, x ≠ [] → Q (x.drop (g x)) → Q x) : ∀ x, Q x := by
  have key : ∀ n (x : List Nat), x.length ≤ n → Q x := by
    intro n
    induction n with
    | zero => intro x h; have : x = [] := List.eq_nil_of_length_eq_zero (by omega); subst this; exact h0
    | succ n ih =>
      intro x h
      by_cases hx : x = []
      · subst hx; exact h0
      · refine h1 x hx (ih _ ?_)
        have h2 := hg x hx
        rw [List.length_drop]
        omega
  exact fun x => key x.length x (Nat.le_refl _)

/-- The tokens mean the text. -/
theorem parsT_means (P : List (List Nat)) (g : List Nat → Nat) (hg : Takes P g) : ∀ x : List Nat, (∀ c ∈ x, c < 256) → meanT P (parsT P g x) = x := by
  refine parsT_ind P g hg (fun _ => rfl) (fun x hx ih hb => ?_)
  have h2 := hg x hx
  rw [parsT_cons P g hg x hx, meanT_cons, tokT_says P x (g x) hb h2.1 h2.2.1 h2.2.2, ih (fun c hc => hb c (List.mem_of_mem_drop hc)), List.take_append_drop]

theorem parsT_few (P : List (List Nat)) (g : List Nat → Nat) (hg : Takes P g) : ∀ x : List Nat, (parsT P g x).length ≤ x.length := by
  refine parsT_ind P g hg (Nat.le_refl _) (fun x hx ih => ?_)
  have h2 := hg x hx
  rw [parsT_cons P g hg x hx, List.length_cons]
  rw [List.length_drop] at ih
  omega

theorem parsT_tokens (P : List (List Nat)) (g : List Nat → Nat) (hg : Takes P g) : ∀ x : List Nat, (∀ c ∈ x, c < 256) → ∀ t ∈ parsT P g x, isT P t := by
  refine parsT_ind P g hg (fun _ t ht => by cases ht) (fun x hx ih hb t ht => ?_)
  rw [parsT_cons P g hg x hx] at ht
  rcases List.mem_cons.1 ht with rfl | h
  · exact tokT_is P x _ hb
  · exact ih (fun c hc => hb c (List.mem_of_mem_drop hc)) t h

/-- Greedy takes the longest. -/
theorem firstT_takes (P : List (List Nat)) (m : Nat) (hm : ∀ s ∈ P, s.length ≤ m) : Takes P (firstT P m) := fun x hx =>
  ⟨(firstT_pos P m hm x hx).1, (firstT_pos P m hm x hx).2, firstT_stands P m hm x⟩

def greedyT (P : List (List Nat)) (m : Nat) (x : List Nat) : List Nat := parsT P (firstT P m) x

/-- How far one comes by taking n bytes, and the longest behind them. -/
def reachT (P : List (List Nat)) (m : Nat) (x : List Nat) (n : Nat) : Nat := if n = x.length then x.length else n + firstT P m (x.drop n)

/-- Of lengths the first one from which one comes the farthest. -/
def farT (r : Nat → Nat) : Nat → List Nat → Nat
  | best, [] => best
  | best, n :: l => farT r (if r best < r n then n else best) l

theorem farT_mem (r : Nat → Nat) : ∀ (l : List Nat) (b : Nat), farT r b l = b ∨ farT r b l ∈ l := by
  intro l
  induction l with
  | nil => intro b; exact .inl rfl
  | cons n l ih =>
    intro b
    rw [farT]
    split
    · rcases ih n with h | h
      · exact .inr (by rw [h]; simp)
      · exact .inr (List.mem_cons_of_mem _ h)
    · rcases ih b with h | h
      · exact .inl h
      · exact .inr (List.mem_cons_of_mem _ h)

theorem farT_best (r : Nat → Nat) : ∀ (l : List Nat) (b : Nat), r b ≤ r (farT r b l) ∧ ∀ n ∈ l, r n ≤ r (farT r b l) := by
  intro l
  induction l with
  | nil => intro b; exact ⟨Nat.le_refl _, fun n hn => by cases hn⟩
  | cons n l ih =>
    intro b
    rw [farT]
    split
    · rename_i h
      obtain ⟨h1, h2⟩ := ih n
      exact ⟨by omega, fun k hk => by
        rcases List.mem_cons.1 hk with rfl | hk
        · exact h1
        · exact h2 k hk⟩
    · rename_i h
      obtain ⟨h1, h2⟩ := ih b
      exact ⟨h1, fun k hk => by
        rcases List.mem_cons.1 hk with rfl | hk
        · omega
        · exact h2 k hk⟩

/-- Of those from which one comes as far the first: of a falling list the greatest. -/
theorem farT_first (r : Nat → Nat) : ∀ (l : List Nat) (b : Nat), (b :: l).Pairwise (fun x y => y < x) → ∀ n ∈ b :: l, r n = r (farT r b l) → n ≤ farT r b l := by
  intro l
  induction l with
  | nil =>
    intro b _ n hn _
    rcases List.mem_cons.1 hn with rfl | h
    · exact Nat.le_refl _
    · cases h
  | cons k l ih =>
    intro b hp n hn hr
    rw [List.pairwise_cons] at hp
    have hp2 := hp.2
    rw [farT] at hr ⊢
    split at hr
    · rename_i h
      rw [if_pos h]
      rcases List.mem_cons.1 hn with rfl | hn2
      · have := (farT_best r l k).1
        omega
      · exact ih k hp2 n hn2 hr
    · rename_i h
      rw [if_neg h]
      rw [List.pairwise_cons] at hp2
      have hp3 : (b :: l).Pairwise (fun x y => y < x) := by
        rw [List.pairwise_cons]
        exact ⟨fun y hy => hp.1 y (List.mem_cons_of_mem _ hy), hp2.2⟩
      rcases List.mem_cons.1 hn with rfl | hn2
      · exact ih n hp3 n (by simp) hr
      · rcases List.mem_cons.1 hn2 with rfl | hn3
        · -- n is the second: the first comes as far, and is greater
          have h1 := (farT_best r l b).1
          have h2 : r b = r (farT r b l) := by omega
          have h3 := ih b hp3 b (by simp) h2
          have h4 := hp.1 n (by simp)
          omega
        · exact ih b hp3 n (List.mem_cons_of_mem _ hn3) hr
end Go.Proofs.Ytchbjokcnpcgcaa
