/-
  Dictionaries as lists of texts: which may be, what bytes they have, and how bytes are cut into phrases. No Go here: lists and numbers alone.
-/
import Derived.Test.YtchbjokcnpcgcaaVariMath
namespace Go.Proofs.Ytchbjokcnpcgcaa

/-- The bytes of all phrases together. -/
def total (L : List ByteArray) : Nat := (L.map ByteArray.size).sum
theorem total_nil : total [] = 0 := rfl
theorem total_snoc (A : List ByteArray) (s : ByteArray) : total (A ++ [s]) = total A + s.size := by simp [total]
theorem total_append (A B : List ByteArray) : total (A ++ B) = total A + total B := by simp [total]
theorem total_cons (A : List ByteArray) (s : ByteArray) : total (s :: A) = s.size + total A := by simp [total]

open Classical in
/-- Why a text may not be the next phrase behind those of A; 0: it may. -/
noncomputable def step (A : List ByteArray) (s : ByteArray) : Nat :=
  if s.size = 0 then 5 else if 40 < s.size ∨ 1000 < total A + s.size then 10 else if s ∈ A then 5 else 0

/-- Phrases that may be; and a code and a place where they may not. -/
def Fine (L : List ByteArray) : Prop := L.length ≤ 100 ∧ ∀ j (h : j < L.length), step (L.take j) (L[j]'h) = 0
def Bad (L : List ByteArray) (c a : Nat) : Prop :=
  (100 < L.length ∧ c = 10 ∧ a = 100) ∨ (L.length ≤ 100 ∧ ∃ h : a < L.length, (∀ j (hj : j < a), step (L.take j) (L[j]'(Nat.lt_trans hj h)) = 0) ∧ step (L.take a) (L[a]'h) = c ∧ c ≠ 0)

theorem fine_or_bad (L : List ByteArray) : Fine L ∨ ∃ c a, Bad L c a := by
  by_cases hl : L.length ≤ 100
  · have key : ∀ n, n ≤ L.length → (∀ j (h : j < L.length), j < n → step (L.take j) (L[j]'h) = 0) ∨ ∃ c a, Bad L c a := by
      intro n
      induction n with
      | zero => intro _; exact .inl (fun j h h0 => by omega)
      | succ n ih =>
        intro hn
        rcases ih (by omega) with h | h
        · by_cases h0 : step (L.take n) (L[n]'(by omega)) = 0
          · refine .inl (fun j hj hjn => ?_)
            by_cases e : j = n
            · subst e; exact h0
            · exact h j hj (by omega)
          · exact .inr ⟨_, n, .inr ⟨hl, by omega, fun j hj => h j _ hj, rfl, h0⟩⟩
        · exact .inr h
    rcases key L.length (Nat.le_refl _) with h | h
    · exact .inl ⟨hl, fun j hj => h j hj hj⟩
    · exact .inr h
  · exact .inr ⟨10, 100, .inl ⟨by omega, rfl, rfl⟩⟩

theorem step_codes (A : List ByteArray) (s : ByteArray) : step A s = 0 ∨ step A s = 5 ∨ step A s = 10 := by
  unfold step; split
  · simp
  · split
    · simp
    · split <;> simp

theorem Bad.code {L : List ByteArray} {c a : Nat} (h : Bad L c a) : (c = 5 ∨ c = 10) ∧ a ≤ 100 := by
  rcases h with ⟨_, rfl, rfl⟩ | ⟨hl, ha, _, h1, h2⟩
  · simp
  · rcases step_codes (L.take a) (L[a]'ha) with h | h | h <;> omega

theorem not_both {L : List ByteArray} {c a : Nat} (h : Bad L c a) : ¬ Fine L := by
  rintro ⟨h1, h2⟩
  rcases h with ⟨h3, _⟩ | ⟨_, ha, _, h4, h5⟩
  · omega
  · exact h5 (h4 ▸ h2 a ha)

theorem bad_one {L : List ByteArray} {c a c' a' : Nat} (h : Bad L c a) (h' : Bad L c' a') : c = c' ∧ a = a' := by
  rcases h with ⟨h1, rfl, rfl⟩ | ⟨h1, ha, h2, h3, h4⟩
  · rcases h' with ⟨_, rfl, rfl⟩ | ⟨h5, _⟩
    · exact ⟨rfl, rfl⟩
    · omega
  · rcases h' with ⟨h5, _⟩ | ⟨_, ha', h6, h7, h8⟩
    · omega
    · rcases Nat.lt_trichotomy a a' with h | h | h
      · exact absurd (h6 a h) (by rw [h3]; exact h4)
      · subst h; exact ⟨h3.symm.trans h7, rfl⟩
      · exact absurd (h2 a' h) (by rw [h7]; exact h8)

theorem step_zero {A : List ByteArray} {s : ByteArray} (h : step A s = 0) : 0 < s.size ∧ s.size ≤ 40 ∧ total A + s.size ≤ 1000 ∧ s ∉ A := by
  unfold step at h
  split at h
  · omega
  · split at h
    · omega
    · split at h
      · omega
      · rename_i h1 h2 h3
        exact ⟨by omega, by omega, by omega, h3⟩

theorem step_is_zero {A : List ByteArray} {s : ByteArray} (h1 : 0 < s.size) (h2 : s.size ≤ 40) (h3 : total A + s.size ≤ 1000) (h4 : s ∉ A) : step A s = 0 := by
  unfold step
  rw [if_neg (by omega), if_neg (by omega), if_neg h4]

theorem total_take (L : List ByteArray) : ∀ j, total (L.take j) ≤ total L := by
  induction L with
  | nil => intro j; simp [total]
  | cons s L ih =>
    intro j
    cases j with
    | zero => simp [total]
    | succ j => have := ih j; rw [List.take_succ_cons, total_cons, total_cons]; omega

theorem size_le_total {L : List ByteArray} {s : ByteArray} (h : s ∈ L) : s.size ≤ total L := by
  induction L with
  | nil => cases h
  | cons t L ih =>
    rw [total_cons]
    rcases List.mem_cons.1 h with rfl | h
    · omega
    · have := ih h; omega

/-- What phrases that may be are, the order apart. -/
theorem fine_iff (L : List ByteArray) : Fine L ↔ L.length ≤ 100 ∧ (∀ s ∈ L, 0 < s.size ∧ s.size ≤ 40) ∧ total L ≤ 1000 ∧ L.Nodup := by
  constructor
  · rintro ⟨hl, h⟩
    refine ⟨hl, fun s hs => ?_, ?_, ?_⟩
    · obtain ⟨j, hj, rfl⟩ := List.getElem_of_mem hs
      have := step_zero (h j hj)
      exact ⟨this.1, this.2.1⟩
    · have key : ∀ n, n ≤ L.length → total (L.take n) ≤ 1000 := by
        intro n
        induction n with
        | zero => intro _; simp [total]
        | succ n _ =>
          intro hn
          rw [List.take_succ_eq_append_getElem (by omega), total_snoc]
          exact (step_zero (h n (by omega))).2.2.1
      have := key L.length (Nat.le_refl _)
      rwa [List.take_length] at this
    · unfold List.Nodup
      rw [List.pairwise_iff_getElem]
      intro i j hi hj hij e
      have h1 := (step_zero (h j hj)).2.2.2
      apply h1
      rw [← e, List.mem_take_iff_getElem]
      exact ⟨i, by omega, rfl⟩
  · rintro ⟨hl, h1, h2, h3⟩
    refine ⟨hl, fun j hj => step_is_zero (h1 _ (List.getElem_mem hj)).1 (h1 _ (List.getElem_mem hj)).2 ?_ ?_⟩
    · rw [← total_snoc, ← List.take_succ_eq_append_getElem hj]
      exact Nat.le_trans (total_take L _) h2
    · intro hm
      rw [List.mem_take_iff_getElem] at hm
      obtain ⟨i, hi, e⟩ := hm
      unfold List.Nodup at h3
      exact (List.pairwise_iff_getElem.1 h3) i j (by omega) hj (by omega) e

theorem fine_take {L : List ByteArray} (h : Fine L) (j : Nat) : Fine (L.take j) := by
  refine ⟨by rw [List.length_take]; have := h.1; omega, fun i hi => ?_⟩
  rw [List.length_take] at hi
  rw [List.take_take, Nat.min_eq_left (by omega), List.getElem_take]
  exact h.2 i (by omega)

/-- The bytes of phrases, and of a dictionary. -/
def body (L : List ByteArray) : List Nat := L.flatMap (fun s => vb s.size ++ nums s)
theorem body_nil : body [] = [] := rfl
theorem body_cons (s : ByteArray) (L : List ByteArray) : body (s :: L) = vb s.size ++ nums s ++ body L := by simp [body]
theorem body_snoc (L : List ByteArray) (s : ByteArray) : body (L ++ [s]) = body L ++ vb s.size ++ nums s := by simp [body]
def enc (L : List ByteArray) : ByteArray := bytesOf (vb L.length ++ body L)

theorem body_byte (L : List ByteArray) : ∀ x ∈ body L, x < 256 := by
  intro x hx
  simp only [body, List.mem_flatMap, List.mem_append] at hx
  obtain ⟨s, _, h | h⟩ := hx
  · exact vb_byte _ x h
  · exact nums_byte _ x h

theorem nums_enc (L : List ByteArray) : nums (enc L) = vb L.length ++ body L := by
  apply nums_bytesOf
  intro x hx
  rcases List.mem_append.1 hx with h | h
  · exact vb_byte _ x h
  · exact body_byte L x h

theorem enc_size (L : List ByteArray) : (enc L).size = vlen L.length + (body L).length := by rw [← nums_length, nums_enc, List.length_append, vb_length]

/-- How bytes are cut: n phrases from a place on, behind those of acc. -/
def cutF (b : ByteArray) : Nat → Nat → List ByteArray → List ByteArray × Nat × Nat
  | 0, p, acc => if p < b.size then ([], 13, p) else (acc, 0, 0)
  | n + 1, p, acc =>
    if (vget (b.extract p b.size)).2.2 ≠ 0 then ([], (vget (b.extract p b.size)).2.2, p)
    else if b.size < p + (vget (b.extract p b.size)).2.1 + (vget (b.extract p b.size)).1 then ([], 2, p + (vget (b.extract p b.size)).2.1)
    else cutF b n (p + (vget (b.extract p b.size)).2.1 + (vget (b.extract p b.size)).1) (acc ++ [b.extract (p + (vget (b.extract p b.size)).2.1) (p + (vget (b.extract p b.size)).2.1 + (vget (b.extract p b.size)).1)])

def cutW (b : ByteArray) : List ByteArray × Nat × Nat :=
  if (vget b).2.2 ≠ 0 then ([], (vget b).2.2, 0) else cutF b (vget b).1 (vget b).2.1 []

theorem vget_drop (b : ByteArray) (p : Nat) : vget (b.extract p b.size) = vgo ((nums b).drop p) 0 0 := by
  rw [vget, nums_extract, List.take_of_length_le (by rw [List.length_drop, nums_length]; omega)]

theorem vgo_code (l : List Nat) : ∀ (i a : Nat), (vgo l i a).2.2 ≤ 4 := by
  induction l with
  | nil => intro i a; simp [vgo]
  | cons c l ih =>
    intro i a
    rw [vgo]
    split
    · simp
    · split
      · exact ih _ _
      · split <;> simp
theorem vget_code (b : ByteArray) : (vget b).2.2 ≤ 4 := vgo_code _ _ _

theorem body_length_ge (L : List ByteArray) : L.length ≤ (body L).length := by
  induction L with
  | nil => simp
  | cons s L ih =>
    rw [body_cons, List.length_append, List.length_append, vb_length, List.length_cons]
    have := vlen_pos s.size
    omega

/-- Cutting goes over whole phrases. -/
theorem cutF_over (b : ByteArray) (R : List ByteArray) : ∀ (pre rest : List Nat) (acc : List ByteArray), (∀ s ∈ R, s.size < 4294967296) → nums b = pre ++ (body R ++ rest) →
    ∀ n, cutF b (R.length + n) pre.length acc = cutF b n (pre.length + (body R).length) (acc ++ R) := by
  induction R with
  | nil => intro pre rest acc _ _ n; simp [body]
  | cons s R ih =>
    intro pre rest acc hs hb n
    have hv : vget (b.extract pre.length b.size) = (s.size, vlen s.size, 0) := by
      rw [vget_drop, hb, List.drop_left, body_cons, List.append_assoc, List.append_assoc, vgo_put _ (hs s (by simp))]
    have hsz : b.size = pre.length + ((body (s :: R)).length + rest.length) := by rw [← nums_length, hb]; simp
    have hbl : (body (s :: R)).length = vlen s.size + s.size + (body R).length := by rw [body_cons]; simp [vb_length, nums_length]; omega
    have e : (s :: R).length + n = (R.length + n) + 1 := by simp; omega
    rw [e, cutF, hv]
    simp only [ne_eq, not_true_eq_false, if_false]
    rw [if_neg (by omega)]
    have hx : b.extract (pre.length + vlen s.size) (pre.length + vlen s.size + s.size) = s := by
      apply nums_inj
      rw [nums_extract, hb, body_cons, Nat.add_sub_cancel_left]
      have : pre ++ (vb s.size ++ nums s ++ body R ++ rest) = (pre ++ vb s.size) ++ (nums s ++ (body R ++ rest)) := by simp
      rw [this, List.drop_left' (by simp [vb_length]), List.take_left' (by rw [nums_length])]
    rw [hx]
    have := ih (pre ++ (vb s.size ++ nums s)) rest (acc ++ [s]) (fun t ht => hs t (by simp [ht])) (by rw [hb, body_cons]; simp) n
    have hl : (pre ++ (vb s.size ++ nums s)).length = pre.length + vlen s.size + s.size := by simp [vb_length, nums_length]; omega
    rw [hl] at this
    rw [this, hbl]
    congr 1
    · omega
    · simp

theorem vget_enc (L : List ByteArray) (hl : L.length < 4294967296) (b : ByteArray) : vget (enc L ++ b) = (L.length, vlen L.length, 0) := by
  rw [vget, nums_append, nums_enc, List.append_assoc, vgo_put _ hl]

/-- A dictionary's bytes are cut into its phrases. -/
theorem cut_enc (L : List ByteArray) (hl : L.length < 4294967296) (hs : ∀ s ∈ L, s.size < 4294967296) : cutW (enc L) = (L, 0, 0) := by
  have hv := vget_enc L hl ⟨#[]⟩
  have h0 : enc L ++ ⟨#[]⟩ = enc L := by apply nums_inj; rw [nums_append]; simp [nums]
  rw [h0] at hv
  have := cutF_over (enc L) L (vb L.length) [] [] hs (by rw [nums_enc]; simp) 0
  rw [cutW, hv]
  simp only [ne_eq, not_true_eq_false, if_false]
  rw [Nat.add_zero, vb_length] at this
  rw [this, cutF, if_neg (by rw [enc_size]; omega)]
  simp

theorem enc_inj (L M : List ByteArray) (hl : L.length < 4294967296) (hs : ∀ s ∈ L, s.size < 4294967296) (hm : M.length < 4294967296) (ht : ∀ s ∈ M, s.size < 4294967296) (h : enc L = enc M) : L = M := by
  have a := cut_enc L hl hs
  have b := cut_enc M hm ht
  rw [h, b] at a
  exact (congrArg Prod.fst a).symm

/-- Bytes behind a dictionary's. -/
theorem cut_more (L : List ByteArray) (hl : L.length < 4294967296) (hs : ∀ s ∈ L, s.size < 4294967296) (b : ByteArray) (hb : 0 < b.size) : cutW (enc L ++ b) = ([], 13, (enc L).size) := by
  have hv := vget_enc L hl b
  have := cutF_over (enc L ++ b) L (vb L.length) (nums b) [] hs (by rw [nums_append, nums_enc]; simp) 0
  rw [cutW, hv]
  simp only [ne_eq, not_true_eq_false, if_false]
  rw [Nat.add_zero, vb_length] at this
  have hz : (enc L ++ b).size = (enc L).size + b.size := by rw [← nums_length, nums_append, List.length_append, nums_length, nums_length]
  rw [this, cutF, if_pos (by rw [hz, enc_size]; omega), enc_size]

/-- Fewer bytes than a number has tell none. -/
theorem vgo_short (n : Nat) (hn : n < 4294967296) (j : Nat) (hj : j < vlen n) : vgo ((vb n).take j) 0 0 = (0, 0, 2) := by
  have h := vget_text n hn ⟨#[]⟩
  obtain ⟨m, hm, e, ht, _, hk⟩ := vget_ok (vtext n ++ ⟨#[]⟩) (by rw [h])
  rw [h] at e
  have en : n = m := congrArg Prod.fst e
  subst en
  have := hk j hj
  rw [vget, nums_first, nums_append, vtext, nums_vb] at this
  rw [List.take_append_of_le_length (by rw [vb_length]; omega)] at this
  exact this

theorem cutF_short (b : ByteArray) (R : List ByteArray) : ∀ (pre : List Nat) (j : Nat) (acc : List ByteArray), (∀ s ∈ R, s.size < 4294967296) → j < (body R).length → nums b = pre ++ (body R).take j →
    ∃ a, cutF b R.length pre.length acc = ([], 2, a) ∧ a ≤ b.size := by
  induction R with
  | nil => intro pre j acc _ hj; simp [body] at hj
  | cons s R ih =>
    intro pre j acc hs hj hb
    have hbl : (body (s :: R)).length = vlen s.size + s.size + (body R).length := by rw [body_cons]; simp [vb_length, nums_length]; omega
    have hsz : b.size = pre.length + j := by rw [← nums_length, hb, List.length_append, List.length_take]; omega
    have hd : vget (b.extract pre.length b.size) = vgo ((body (s :: R)).take j) 0 0 := by rw [vget_drop, hb, List.drop_left]
    rw [List.length_cons, cutF]
    by_cases h1 : j < vlen s.size
    · have : vget (b.extract pre.length b.size) = (0, 0, 2) := by
        rw [hd, body_cons, List.append_assoc, List.take_append_of_le_length (by rw [vb_length]; omega)]
        exact vgo_short _ (hs s (by simp)) j h1
      rw [this]
      exact ⟨pre.length, by simp, by omega⟩
    · have : vget (b.extract pre.length b.size) = (s.size, vlen s.size, 0) := by
        have e : (body (s :: R)).take j = vb s.size ++ (nums s ++ body R).take (j - vlen s.size) := by
          rw [body_cons, List.append_assoc, List.take_append, vb_length, List.take_of_length_le (by rw [vb_length]; omega)]
        rw [hd, e, vgo_put _ (hs s (by simp))]
      rw [this]
      simp only [ne_eq, not_true_eq_false, if_false]
      by_cases h2 : j < vlen s.size + s.size
      · rw [if_pos (by omega)]
        exact ⟨_, rfl, by omega⟩
      · rw [if_neg (by omega)]
        have := ih (pre ++ (vb s.size ++ nums s)) (j - (vlen s.size + s.size)) (acc ++ [b.extract (pre.length + vlen s.size) (pre.length + vlen s.size + s.size)]) (fun t ht => hs t (by simp [ht])) (by omega) (by
          rw [hb, body_cons, List.take_append, List.take_of_length_le (by simp [vb_length, nums_length]; omega)]
          simp [vb_length, nums_length])
        have hl : (pre ++ (vb s.size ++ nums s)).length = pre.length + vlen s.size + s.size := by simp [vb_length, nums_length]; omega
        rw [hl] at this
        exact this

/-- A dictionary's bytes, cut off. -/
theorem cut_short (L : List ByteArray) (hl : L.length < 4294967296) (hs : ∀ s ∈ L, s.size < 4294967296) (j : Nat) (hj : j < (enc L).size) : ∃ a, cutW ((enc L).extract 0 j) = ([], 2, a) ∧ a ≤ j := by
  have hsz : ((enc L).extract 0 j).size = j := by rw [← nums_length, nums_first, List.length_take, nums_length]; omega
  have hn : nums ((enc L).extract 0 j) = (vb L.length ++ body L).take j := by rw [nums_first, nums_enc]
  rw [enc_size] at hj
  by_cases h1 : j < vlen L.length
  · have : vget ((enc L).extract 0 j) = (0, 0, 2) := by
      rw [vget, hn, List.take_append_of_le_length (by rw [vb_length]; omega)]
      exact vgo_short _ hl j h1
    rw [cutW, this]
    exact ⟨0, by simp, by omega⟩
  · have e : (vb L.length ++ body L).take j = vb L.length ++ (body L).take (j - vlen L.length) := by
      rw [List.take_append, vb_length, List.take_of_length_le (by rw [vb_length]; omega)]
    have : vget ((enc L).extract 0 j) = (L.length, vlen L.length, 0) := by
      rw [vget, hn, e, vgo_put _ hl]
    rw [cutW, this]
    simp only [ne_eq, not_true_eq_false, if_false]
    have := cutF_short ((enc L).extract 0 j) L (vb L.length) (j - vlen L.length) [] hs (by omega) (by rw [hn, e])
    rw [vb_length, hsz] at this
    exact this

/-- Bytes that are cut are just those of the phrases. -/
theorem cutF_back (b : ByteArray) : ∀ (n p : Nat) (acc L : List ByteArray), p ≤ b.size → cutF b n p acc = (L, 0, 0) → ∃ R, L = acc ++ R ∧ R.length = n ∧ (nums b).drop p = body R := by
  intro n
  induction n with
  | zero =>
    intro p acc L hp h
    rw [cutF] at h
    split at h
    · simp at h
    · rename_i h1
      refine ⟨[], by simpa using (congrArg Prod.fst h).symm, rfl, ?_⟩
      rw [List.drop_of_length_le (by rw [nums_length]; omega)]; rfl
  | succ n ih =>
    intro p acc L hp h
    rw [cutF] at h
    split at h
    · rename_i h1
      exact absurd (congrArg (fun x => x.2.1) h) h1
    · rename_i h1
      have h1 : (vget (b.extract p b.size)).2.2 = 0 := by omega
      obtain ⟨m, hm, e, ht, hle, _⟩ := vget_ok _ h1
      rw [e] at h
      simp only at h
      split at h
      · simp at h
      · rename_i h2
        obtain ⟨R, hR, hRl, hb⟩ := ih _ _ _ (by omega) h
        refine ⟨b.extract (p + vlen m) (p + vlen m + m) :: R, by rw [hR]; simp, by simp [hRl], ?_⟩
        have hsz : (b.extract (p + vlen m) (p + vlen m + m)).size = m := by
          rw [← nums_length, nums_extract, List.length_take, List.length_drop, nums_length]; omega
        rw [body_cons, hsz, ← hb, nums_extract, Nat.add_sub_cancel_left]
        have h3 : vb m = ((nums b).drop p).take (vlen m) := by
          have := congrArg nums ht
          rw [vtext, nums_vb, nums_first, nums_extract, List.take_of_length_le (l := (nums b).drop p) (by rw [List.length_drop, nums_length]; omega)] at this
          exact this
        rw [h3, List.append_assoc, ← List.drop_drop (l := nums b) (i := m), List.take_append_drop, ← List.drop_drop (l := nums b), List.take_append_drop]

theorem cut_back (b : ByteArray) (L : List ByteArray) (h : cutW b = (L, 0, 0)) : enc L = b ∧ L.length < 4294967296 := by
  rw [cutW] at h
  split at h
  · rename_i h1
    exact absurd (congrArg (fun x => x.2.1) h) h1
  · rename_i h1
    have h1 : (vget b).2.2 = 0 := by omega
    obtain ⟨m, hm, e, ht, hle, _⟩ := vget_ok _ h1
    rw [e] at h
    obtain ⟨R, hR, hRl, hb⟩ := cutF_back b _ _ _ _ hle h
    rw [List.nil_append] at hR
    subst hR
    refine ⟨?_, by omega⟩
    apply nums_inj
    rw [nums_enc, hRl, ← hb]
    have := congrArg nums ht
    rw [vtext, nums_vb, nums_first] at this
    rw [this]
    exact List.take_append_drop _ _
end Go.Proofs.Ytchbjokcnpcgcaa
