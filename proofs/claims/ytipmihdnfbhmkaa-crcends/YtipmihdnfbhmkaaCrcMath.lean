/-
  Sums of bytes by halves: how they go by the bits that differ, that none is lost, and which sum 0s make. No Go here: numbers and lists alone.
-/
import Derived.Test.YtipmihdnfbhmkaaTexts
import Derived.Laws.BitsAllLaws
namespace Go.Proofs.Ytipmihdnfbhmkaa

/-- Half of it, and, if the lowest bit was 1, the polynomial with it. -/
def half (s : Nat) : Nat := if s % 2 = 1 then s / 2 ^^^ 3988292384 else s / 2

def halves : Nat → Nat → Nat
  | 0, s => s
  | k + 1, s => halves k (half s)

/-- The sum, not turned, behind bytes. -/
def csum (s : Nat) (l : List Nat) : Nat := l.foldl (fun s x => halves 8 (s ^^^ x)) s

/-- The sum of a text. -/
def crc (b : ByteArray) : Nat := csum 4294967295 (nums b) ^^^ 4294967295

theorem xor_swap (a b c d : Nat) : (a ^^^ b) ^^^ (c ^^^ d) = (a ^^^ c) ^^^ (b ^^^ d) := by
  rw [Nat.xor_assoc, ← Nat.xor_assoc b c d, Nat.xor_comm b c, Nat.xor_assoc c b d, ← Nat.xor_assoc]

theorem half_xor (a b : Nat) : half (a ^^^ b) = half a ^^^ half b := by
  have h1 : (a ^^^ b) / 2 = a / 2 ^^^ b / 2 := Nat.xor_div_two
  have h2 : (a ^^^ b) % 2 = (a % 2 ^^^ b % 2) := by
    have := Nat.xor_mod_two_pow (a := a) (b := b) (n := 1)
    simpa using this
  unfold half
  rw [h1, h2]
  rcases Nat.mod_two_eq_zero_or_one a with ha | ha <;> rcases Nat.mod_two_eq_zero_or_one b with hb | hb <;> rw [ha, hb]
  · simp
  · simp [Nat.xor_assoc]
  · simp only [Nat.xor_zero, if_true, Nat.zero_ne_one, if_false]
    rw [Nat.xor_assoc, Nat.xor_comm (b / 2), ← Nat.xor_assoc]
  · simp only [Nat.xor_self, Nat.zero_ne_one, if_false, if_true]
    rw [xor_swap, Nat.xor_self, Nat.xor_zero]

theorem half_lt (s : Nat) (h : s < 4294967296) : half s < 4294967296 := by
  unfold half
  split
  · exact Nat.xor_lt_two_pow (n := 32) (by omega) (by decide)
  · omega

theorem xor_eq_zero {a b : Nat} (h : a ^^^ b = 0) : a = b := by
  have := congrArg (· ^^^ b) h
  simpa [Nat.xor_assoc] using this

theorem half_zero (s : Nat) (h : s < 4294967296) (h0 : half s = 0) : s = 0 := by
  unfold half at h0
  split at h0
  · have := xor_eq_zero h0
    omega
  · omega

theorem halves_xor (k : Nat) : ∀ a b : Nat, halves k (a ^^^ b) = halves k a ^^^ halves k b := by
  induction k with
  | zero => intro a b; rfl
  | succ k ih => intro a b; rw [halves, half_xor, ih]; rfl

theorem halves_lt (k : Nat) : ∀ s : Nat, s < 4294967296 → halves k s < 4294967296 := by
  induction k with
  | zero => intro s h; exact h
  | succ k ih => intro s h; exact ih _ (half_lt s h)

theorem halves_zero (k : Nat) : ∀ s : Nat, s < 4294967296 → halves k s = 0 → s = 0 := by
  induction k with
  | zero => intro s _ h; exact h
  | succ k ih => intro s h h0; exact half_zero s h (ih _ (half_lt s h) h0)

theorem halves_inj (k a b : Nat) (ha : a < 4294967296) (hb : b < 4294967296) (h : halves k a = halves k b) : a = b := by
  apply xor_eq_zero
  apply halves_zero k _ (Nat.xor_lt_two_pow (n := 32) ha hb)
  rw [halves_xor, h, Nat.xor_self]

theorem halves_add (j : Nat) : ∀ k s : Nat, halves (j + k) s = halves k (halves j s) := by
  induction j with
  | zero => intro k s; rw [Nat.zero_add]; rfl
  | succ j ih => intro k s; rw [Nat.succ_add]; exact ih k (half s)

theorem halves_succ (k s : Nat) : halves (k + 1) s = half (halves k s) := halves_add k 1 s

theorem halves_up (k : Nat) : ∀ x : Nat, halves k (x * 2 ^ k) = x := by
  induction k with
  | zero => intro x; show x * 1 = x; omega
  | succ k ih =>
    intro x
    have h1 : half (x * 2 ^ (k + 1)) = x * 2 ^ k := by
      have : x * 2 ^ (k + 1) = 2 * (x * 2 ^ k) := by rw [Nat.pow_succ, ← Nat.mul_assoc, Nat.mul_comm]
      unfold half
      rw [this, if_neg (by omega)]
      omega
    rw [halves, h1, ih]

/-- A number is what stands above its lowest eight bits, and them. -/
theorem low_xor (x : Nat) : x ^^^ x % 256 = x / 256 * 2 ^ 8 := by
  apply Nat.eq_of_testBit_eq
  intro i
  have h1 := Nat.testBit_mod_two_pow x 8 i
  have h2 := Nat.testBit_div_two_pow (n := 8) x (i - 8)
  rw [Nat.testBit_xor, Nat.mul_comm, Nat.testBit_two_pow_mul]
  rw [show (2 : Nat) ^ 8 = 256 from rfl] at h1 h2
  rw [h1, h2]
  by_cases h : i < 8
  · simp [h]
    omega
  · have : 8 + (i - 8) = i := by omega
    have h8 : 8 ≤ i := by omega
    have h3 : i - 8 + 8 = i := by omega
    simp [h, h8, h3]

theorem csum_nil (s : Nat) : csum s [] = s := rfl
theorem csum_cons (s x : Nat) (l : List Nat) : csum s (x :: l) = csum (halves 8 (s ^^^ x)) l := rfl
theorem csum_append (s : Nat) (l m : List Nat) : csum s (l ++ m) = csum (csum s l) m := by unfold csum; rw [List.foldl_append]

theorem csum_lt (l : List Nat) (hl : ∀ x ∈ l, x < 256) : ∀ s : Nat, s < 4294967296 → csum s l < 4294967296 := by
  induction l with
  | nil => intro s h; exact h
  | cons x l ih =>
    intro s h
    rw [csum_cons]
    have hx := hl x List.mem_cons_self
    exact ih (fun y hy => hl y (List.mem_cons_of_mem _ hy)) _ (halves_lt 8 _ (Nat.xor_lt_two_pow (n := 32) h (by omega)))

theorem xor_left_inj {a b c : Nat} (h : a ^^^ b = a ^^^ c) : b = c := by
  have := congrArg (a ^^^ ·) h
  simpa [← Nat.xor_assoc] using this

theorem xor_right_inj {a b c : Nat} (h : b ^^^ a = c ^^^ a) : b = c := by
  rw [Nat.xor_comm b, Nat.xor_comm c] at h
  exact xor_left_inj h

theorem csum_inj (l : List Nat) (hl : ∀ x ∈ l, x < 256) : ∀ s t : Nat, s < 4294967296 → t < 4294967296 → csum s l = csum t l → s = t := by
  induction l with
  | nil => intro s t _ _ h; exact h
  | cons x l ih =>
    intro s t hs ht h
    rw [csum_cons, csum_cons] at h
    have hx := hl x List.mem_cons_self
    have h1 := Nat.xor_lt_two_pow (n := 32) hs (show x < 2 ^ 32 by omega)
    have h2 := Nat.xor_lt_two_pow (n := 32) ht (show x < 2 ^ 32 by omega)
    exact xor_right_inj (halves_inj 8 _ _ h1 h2 (ih (fun y hy => hl y (List.mem_cons_of_mem _ hy)) _ _ (halves_lt 8 _ h1) (halves_lt 8 _ h2) h))

theorem crc_lt (b : ByteArray) : crc b < 4294967296 := Nat.xor_lt_two_pow (n := 32) (csum_lt _ (nums_byte b) _ (by decide)) (by decide)

/-- Of bytes of which one is another, the sum is another. -/
theorem crc_turned (p q : List Nat) (x y : Nat) (hp : ∀ z ∈ p, z < 256) (hq : ∀ z ∈ q, z < 256) (hx : x < 256) (hy : y < 256) (h : csum 4294967295 (p ++ x :: q) = csum 4294967295 (p ++ y :: q)) : x = y := by
  rw [csum_append, csum_append, csum_cons, csum_cons] at h
  have h0 := csum_lt p hp 4294967295 (by decide)
  have h1 := Nat.xor_lt_two_pow (n := 32) h0 (show x < 2 ^ 32 by omega)
  have h2 := Nat.xor_lt_two_pow (n := 32) h0 (show y < 2 ^ 32 by omega)
  exact xor_left_inj (halves_inj 8 _ _ h1 h2 (csum_inj q hq _ _ (halves_lt 8 _ h1) (halves_lt 8 _ h2) h))

theorem csum_zeros (n : Nat) : ∀ s : Nat, csum s (List.replicate n 0) = halves (8 * n) s := by
  induction n with
  | zero => intro s; rfl
  | succ n ih =>
    intro s
    rw [List.replicate_succ, csum_cons, ih, Nat.xor_zero, show 8 * (n + 1) = 8 + 8 * n by omega, halves_add]

/-- One byte's worth, four bytes' worth at the end. -/
theorem step_low (a x : Nat) : halves 8 ((a ^^^ x) ^^^ x % 256) = halves 8 a ^^^ x / 256 := by
  rw [Nat.xor_assoc, low_xor, halves_xor, halves_up]

theorem csum_end (x : Nat) (hx : x < 4294967296) : csum (x ^^^ 4294967295) [x % 256, x / 256 % 256, x / 65536 % 256, x / 16777216 % 256] = halves 32 4294967295 := by
  rw [Nat.xor_comm, csum_cons, csum_cons, csum_cons, csum_cons, csum_nil]
  rw [step_low, step_low, show x / 65536 = x / 256 / 256 by omega, step_low, show x / 16777216 = x / 256 / 256 / 256 by omega, step_low]
  rw [show x / 256 / 256 / 256 / 256 = 0 by omega, Nat.xor_zero]
  rw [← halves_add, ← halves_add, ← halves_add]

/-- Three lists side by side. -/
def xor3 : List Nat → List Nat → List Nat → List Nat
  | a :: l, b :: m, c :: n => (a ^^^ b ^^^ c) :: xor3 l m n
  | _, _, _ => []

theorem csum_xor3 (l : List Nat) : ∀ (m n : List Nat) (s t u : Nat), l.length = m.length → m.length = n.length → csum (s ^^^ t ^^^ u) (xor3 l m n) = csum s l ^^^ csum t m ^^^ csum u n := by
  induction l with
  | nil =>
    intro m n s t u h1 h2
    obtain rfl : m = [] := List.eq_nil_of_length_eq_zero h1.symm
    obtain rfl : n = [] := List.eq_nil_of_length_eq_zero h2.symm
    rfl
  | cons a l ih =>
    intro m n s t u h1 h2
    cases m with
    | nil => simp at h1
    | cons b m =>
      cases n with
      | nil => simp at h2
      | cons c n =>
        simp only [List.length_cons, Nat.add_right_cancel_iff] at h1 h2
        rw [xor3, csum_cons, csum_cons, csum_cons, csum_cons, ← ih m n _ _ _ h1 h2, ← halves_xor, ← halves_xor, xor_swap, xor_swap s t a b]

/-- None of the next k halves comes back to where it began. -/
def never : Nat → Nat → Bool
  | 0, _ => true
  | k + 1, s => cond (Nat.beq (half s) 4294967295) false (never k (half s))

theorem never_at (k : Nat) : ∀ s : Nat, never k s = true → ∀ j, 1 ≤ j → j ≤ k → halves j s ≠ 4294967295 := by
  induction k with
  | zero => intro s _ j h1 h2; omega
  | succ k ih =>
    intro s h j h1 h2
    rw [never] at h
    cases hb : Nat.beq (half s) 4294967295 with
    | true => rw [hb] at h; simp at h
    | false =>
      rw [hb] at h
      obtain ⟨i, rfl⟩ : ∃ i, j = i + 1 := ⟨j - 1, by omega⟩
      by_cases hi : i = 0
      · subst hi
        intro h0
        have : Nat.beq (half s) 4294967295 = true := by rw [show half s = 4294967295 from h0]; rfl
        rw [hb] at this
        exact absurd this (by decide)
      · exact ih (half s) h i (by omega) (by omega)

theorem never_16000 : never 16000 4294967295 = true := by decide +kernel

theorem zeros_inj (n m : Nat) (hn : n ≤ 2000) (hm : m ≤ 2000) (h : csum 4294967295 (List.replicate n 0) = csum 4294967295 (List.replicate m 0)) : n = m := by
  rw [csum_zeros, csum_zeros] at h
  rcases Nat.lt_trichotomy n m with hl | he | hl
  · exfalso
    rw [show 8 * m = 8 * (m - n) + 8 * n by omega, halves_add] at h
    exact never_at 16000 _ never_16000 (8 * (m - n)) (by omega) (by omega) (halves_inj _ _ _ (halves_lt _ _ (by decide)) (by decide) h.symm)
  · exact he
  · exfalso
    rw [show 8 * n = 8 * (n - m) + 8 * m by omega, halves_add] at h
    exact never_at 16000 _ never_16000 (8 * (n - m)) (by omega) (by omega) (halves_inj _ _ _ (halves_lt _ _ (by decide)) (by decide) h)

theorem crc_123 : crc ⟨#[49, 50, 51, 52, 53, 54, 55, 56, 57]⟩ = 3421780262 := by decide +kernel
theorem crc_nil : crc ⟨#[]⟩ = 0 := by decide +kernel
end Go.Proofs.Ytipmihdnfbhmkaa
