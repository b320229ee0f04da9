/-
  Whole numbers as floats of 64 bits: what their words stand for, their sums, their order, and back. No Go here.
-/
import Derived.Laws.ComplexArith
namespace Go.Proofs.Ytdnjmlenpelfgaa
open Ieee

/-- The word of a whole number. -/
def fN (n : Nat) : Nat := double.nearest false n 0

theorem log2_mul_pow (n k : Nat) (h : n ≠ 0) : (n * 2 ^ k).log2 = n.log2 + k := by
  have h1 : n * 2 ^ k ≠ 0 := Nat.mul_ne_zero h (Nat.pos_iff_ne_zero.1 (Nat.pow_pos (by decide)))
  rw [Nat.log2_eq_iff h1]
  have h2 := (Nat.log2_eq_iff h).1 rfl
  constructor
  · rw [Nat.pow_add]
    exact Nat.mul_le_mul_right _ h2.1
  · rw [show n.log2 + k + 1 = n.log2 + 1 + k by omega, Nat.pow_add]
    exact (Nat.mul_lt_mul_right (Nat.pow_pos (by decide))).2 h2.2

theorem cut_none (way : Toward) (n : Nat) : way.cut false n 0 = n := by
  unfold Toward.cut
  cases way <;> simp [Nat.mod_one]

theorem cut_whole (way : Toward) (n k drop : Nat) (h : n ≠ 0) (hd : drop ≤ k) : way.cut false (n * 2 ^ k) drop = n * 2 ^ (k - drop) := by
  unfold Toward.cut
  have hm : min drop ((n * 2 ^ k).log2 + 2) = drop := by
    rw [log2_mul_pow n k h]
    omega
  have e : n * 2 ^ k = n * 2 ^ (k - drop) * 2 ^ drop := by
    rw [Nat.mul_assoc, ← Nat.pow_add, Nat.sub_add_cancel hd]
  have hp : 0 < 2 ^ drop := Nat.pow_pos (by decide)
  have hq : n * 2 ^ k / 2 ^ drop = n * 2 ^ (k - drop) := by rw [e, Nat.mul_div_cancel _ hp]
  have hr : n * 2 ^ k % 2 ^ drop = 0 := by rw [e, Nat.mul_mod_left]
  rw [hm]
  simp only [Nat.one_shiftLeft, hq, hr]
  cases way
  · have h1 : ¬ (2 ^ drop = 0) := by omega
    simp
  · simp
  · simp
  · simp

theorem log2_le (n : Nat) (h : n < 9007199254740992) : n.log2 ≤ 52 := by
  by_cases h0 : n = 0
  · subst h0; decide
  · have := (Nat.log2_lt h0 (k := 53)).2 h
    omega

/-- Its rung. -/
theorem near_rung (n k : Nat) (h0 : n ≠ 0) (h : n < 9007199254740992) : double.nearest false (n * 2 ^ k) (-(k : Int)) = (n.log2 + 1022) * 4503599627370496 + n * 2 ^ (52 - n.log2) := by
  have hL := log2_le n h
  have hne : n * 2 ^ k ≠ 0 := Nat.mul_ne_zero h0 (Nat.pos_iff_ne_zero.1 (Nat.pow_pos (by decide)))
  have hlast : max (-(k : Int) + ((n * 2 ^ k).log2 : Int) - (double.fractionBits : Int)) double.leastPlace = (n.log2 : Int) - 52 := by
    rw [log2_mul_pow n k h0]
    have : double.leastPlace = -1074 := by decide
    rw [this]
    show max (-(k : Int) + ((n.log2 + k : Nat) : Int) - (52 : Int)) (-1074) = _
    omega
  have hkept : Toward.even.cut false ((n * 2 ^ k) <<< (-(k : Int) - ((n.log2 : Int) - 52)).toNat) (((n.log2 : Int) - 52) - (-(k : Int))).toNat = n * 2 ^ (52 - n.log2) := by
    by_cases hk : k ≤ 52 - n.log2
    · have e1 : (-(k : Int) - ((n.log2 : Int) - 52)).toNat = 52 - n.log2 - k := by omega
      have e2 : (((n.log2 : Int) - 52) - (-(k : Int))).toNat = 0 := by omega
      rw [e1, e2, cut_none, Nat.shiftLeft_eq, Nat.mul_assoc, ← Nat.pow_add, show k + (52 - n.log2 - k) = 52 - n.log2 by omega]
    · have e1 : (-(k : Int) - ((n.log2 : Int) - 52)).toNat = 0 := by omega
      have e2 : (((n.log2 : Int) - 52) - (-(k : Int))).toNat = k - (52 - n.log2) := by omega
      rw [e1, e2, Nat.shiftLeft_zero, cut_whole _ _ _ _ h0 (by omega), show k - (k - (52 - n.log2)) = 52 - n.log2 by omega]
  unfold Format.nearest
  rw [if_neg hne]
  simp only [hlast, hkept]
  have e3 : ((n.log2 : Int) - 52 - double.leastPlace).toNat = n.log2 + 1022 := by
    have : double.leastPlace = -1074 := by decide
    rw [this]; omega
  rw [e3]
  have hb : double.binade = 4503599627370496 := by decide
  have hi : double.infRung = 2047 * 4503599627370496 := by decide
  rw [hb, hi]
  have h2 := (Nat.log2_eq_iff h0).1 rfl
  have h3 : n * 2 ^ (52 - n.log2) < 9007199254740992 := by
    have h4 : n * 2 ^ (52 - n.log2) < 2 ^ (n.log2 + 1) * 2 ^ (52 - n.log2) := (Nat.mul_lt_mul_right (Nat.pow_pos (by decide))).2 h2.2
    rw [← Nat.pow_add, show n.log2 + 1 + (52 - n.log2) = 53 by omega] at h4
    exact h4
  unfold Format.word
  simp only [Bool.false_eq_true, if_false]
  omega

theorem fN_rung (n : Nat) (h0 : n ≠ 0) (h : n < 9007199254740992) : fN n = (n.log2 + 1022) * 4503599627370496 + n * 2 ^ (52 - n.log2) := by
  have := near_rung n 0 h0 h
  simpa [fN] using this

/-- A number that is whole, written with digits behind the point, is that number's word. -/
theorem near_whole (n k : Nat) (h : n < 9007199254740992) : double.nearest false (n * 2 ^ k) (-(k : Int)) = fN n := by
  by_cases h0 : n = 0
  · subst h0
    simp [Format.nearest, fN]
  · rw [near_rung n k h0 h, fN_rung n h0 h]

/-- What it stands for. -/
theorem fN_read (n : Nat) (h : n < 9007199254740992) : ∃ e : Nat, double.read (fN n) = .number false (n * 2 ^ e) (-(e : Int)) := by
  by_cases h0 : n = 0
  · subst h0
    obtain ⟨k, hk⟩ : ∃ k : Nat, k = 1074 := ⟨_, rfl⟩
    refine ⟨k, ?_⟩
    have e : fN 0 = 0 := rfl
    rw [e, Nat.zero_mul, hk]
    rfl
  · refine ⟨52 - n.log2, ?_⟩
    have hL := log2_le n h
    have h2 := (Nat.log2_eq_iff h0).1 rfl
    have h3 : n * 2 ^ (52 - n.log2) < 9007199254740992 := by
      have h4 : n * 2 ^ (52 - n.log2) < 2 ^ (n.log2 + 1) * 2 ^ (52 - n.log2) := (Nat.mul_lt_mul_right (Nat.pow_pos (by decide))).2 h2.2
      rw [← Nat.pow_add, show n.log2 + 1 + (52 - n.log2) = 53 by omega] at h4
      exact h4
    have h5 : 4503599627370496 ≤ n * 2 ^ (52 - n.log2) := by
      have h4 : 2 ^ n.log2 * 2 ^ (52 - n.log2) ≤ n * 2 ^ (52 - n.log2) := Nat.mul_le_mul_right _ h2.1
      rw [← Nat.pow_add, show n.log2 + (52 - n.log2) = 52 by omega] at h4
      exact h4
    rw [fN_rung n h0 h]
    generalize n * 2 ^ (52 - n.log2) = K at *
    generalize n.log2 = L at *
    have hs : double.signWeight = 9223372036854775808 := by decide
    have hb : double.binade = 4503599627370496 := by decide
    have hi : double.infRung = 2047 * 4503599627370496 := by decide
    have hl : double.leastPlace = -1074 := by decide
    unfold Format.read
    simp only [hs, hb, hi, hl]
    have d1 : ((L + 1022) * 4503599627370496 + K) / 9223372036854775808 = 0 := by omega
    have d2 : ((L + 1022) * 4503599627370496 + K) % 9223372036854775808 = (L + 1022) * 4503599627370496 + K := by omega
    have d3 : ((L + 1022) * 4503599627370496 + K) % 4503599627370496 = K - 4503599627370496 := by omega
    have d4 : ((L + 1022) * 4503599627370496 + K) / 4503599627370496 = L + 1023 := by omega
    have c1 : ¬ (L + 1022) * 4503599627370496 + K < 4503599627370496 := by omega
    have c2 : (L + 1022) * 4503599627370496 + K < 2047 * 4503599627370496 := by omega
    have c3 : 4503599627370496 + (K - 4503599627370496) = K := by omega
    have c4 : (-1074 : Int) + ((L + 1023 - 1 : Nat) : Int) = -((52 - L : Nat) : Int) := by omega
    rw [d1, d2, d3, d4, if_neg c1, if_pos c2, c3, c4]
    rfl

theorem signed_pos (m u : Nat) : signed false m u = ((m * 2 ^ u : Nat) : Int) := by
  simp [signed, Nat.shiftLeft_eq]

/-- The sum of two. -/
theorem fN_add (a b : Nat) (h : a + b < 9007199254740992) : double.add (fN a) (fN b) = some (fN (a + b)) := by
  obtain ⟨e, he⟩ := fN_read a (by omega)
  obtain ⟨f, hf⟩ := fN_read b (by omega)
  unfold Format.add
  rw [he, hf]
  obtain ⟨k, hk⟩ : ∃ k, k = max e f := ⟨_, rfl⟩
  have hbase : min (-(e : Int)) (-(f : Int)) = -(k : Int) := by omega
  have h1 : (-(e : Int) - -(k : Int)).toNat = k - e := by omega
  have h2 : (-(f : Int) - -(k : Int)).toNat = k - f := by omega
  have h3 : a * 2 ^ e * 2 ^ (k - e) = a * 2 ^ k := by rw [Nat.mul_assoc, ← Nat.pow_add, show e + (k - e) = k by omega]
  have h4 : b * 2 ^ f * 2 ^ (k - f) = b * 2 ^ k := by rw [Nat.mul_assoc, ← Nat.pow_add, show f + (k - f) = k by omega]
  have h5 : ((a * 2 ^ k : Nat) : Int) + ((b * 2 ^ k : Nat) : Int) = (((a + b) * 2 ^ k : Nat) : Int) := by rw [Nat.add_mul]; omega
  simp only [Datum.sum, hbase, h1, h2, signed_pos, h3, h4, h5]
  have h6 : (if (((a + b) * 2 ^ k : Nat) : Int) = 0 then (false && false) else decide ((((a + b) * 2 ^ k : Nat) : Int) < 0)) = false := by
    split
    · rfl
    · exact decide_eq_false (by omega)
  rw [h6, Int.natAbs_natCast, Option.map_some]
  show some (double.nearest false ((a + b) * 2 ^ k) (-(k : Int))) = _
  rw [near_whole _ _ h]

/-- How two stand to each other. -/
theorem fN_order (a b : Nat) (ha : a < 9007199254740992) (hb : b < 9007199254740992) : double.order (fN a) (fN b) = some (compare a b) := by
  obtain ⟨e, he⟩ := fN_read a ha
  obtain ⟨f, hf⟩ := fN_read b hb
  unfold Format.order
  rw [he, hf]
  obtain ⟨k, hk⟩ : ∃ k, k = max e f := ⟨_, rfl⟩
  have hbase : min (-(e : Int)) (-(f : Int)) = -(k : Int) := by omega
  have h1 : (-(e : Int) - -(k : Int)).toNat = k - e := by omega
  have h2 : (-(f : Int) - -(k : Int)).toNat = k - f := by omega
  have h3 : a * 2 ^ e * 2 ^ (k - e) = a * 2 ^ k := by rw [Nat.mul_assoc, ← Nat.pow_add, show e + (k - e) = k by omega]
  have h4 : b * 2 ^ f * 2 ^ (k - f) = b * 2 ^ k := by rw [Nat.mul_assoc, ← Nat.pow_add, show f + (k - f) = k by omega]
  have hp : 0 < 2 ^ k := Nat.pow_pos (by decide)
  simp only [Datum.order, hbase, h1, h2, signed_pos, h3, h4]
  congr 1
  rcases Nat.lt_trichotomy a b with h | h | h
  · have h5 : a * 2 ^ k < b * 2 ^ k := (Nat.mul_lt_mul_right hp).2 h
    rw [Nat.compare_eq_lt.2 h, Int.compare_eq_lt.2 (by omega)]
  · subst h
    rw [Nat.compare_eq_eq.2 rfl, Int.compare_eq_eq.2 rfl]
  · have h5 : b * 2 ^ k < a * 2 ^ k := (Nat.mul_lt_mul_right hp).2 h
    rw [Nat.compare_eq_gt.2 h, Int.compare_eq_gt.2 (by omega)]

/-- And back. -/
theorem fN_back (n : Nat) (h : n < 9007199254740992) : (double.read (fN n)).toInt .zero = some (n : Int) := by
  obtain ⟨e, he⟩ := fN_read n h
  rw [he]
  have h1 : (-(e : Int)).toNat = 0 := by omega
  have h2 : (- -(e : Int)).toNat = e := by omega
  have h3 : Toward.zero.cut false (n * 2 ^ e) e = n := by
    by_cases h0 : n = 0
    · subst h0
      unfold Toward.cut
      simp
    · rw [cut_whole _ _ _ _ h0 (Nat.le_refl _), Nat.sub_self, Nat.pow_zero, Nat.mul_one]
  simp only [Datum.toInt, Datum.integral, h1, h2, Nat.shiftLeft_zero, h3, signed_pos, Nat.pow_zero, Nat.mul_one]

theorem fN_inj (a b : Nat) (ha : a < 9007199254740992) (hb : b < 9007199254740992) : fN a = fN b ↔ a = b := by
  constructor
  · intro e
    have h1 := fN_back a ha
    rw [e, fN_back b hb] at h1
    injection h1 with h1
    omega
  · rintro rfl; rfl

theorem ofInt_fN (n : Nat) : floatOfInt .f64 (n : Int) = fN n := by
  unfold floatOfInt FloatKind.nearest FloatKind.encode Format.write fN
  have h1 : decide ((n : Int) < 0) = false := decide_eq_false (by omega)
  rw [h1, Int.natAbs_natCast]
  rfl

theorem toInt_fN (n : Nat) (h : n < 9007199254740992) : floatToIntVal .f64 (fN n) .i64 = some (n : Int) := by
  unfold floatToIntVal FloatKind.decode
  rw [show FloatKind.f64.format = double from rfl, fN_back n h]
  have h1 : IntKind.i64.min ≤ (n : Int) ∧ (n : Int) ≤ IntKind.i64.max := by
    have e1 : IntKind.i64.min = -9223372036854775808 := by decide
    have e2 : IntKind.i64.max = 9223372036854775807 := by decide
    rw [e1, e2]
    omega
  simp only [h1, and_self, if_true]

theorem add_fN (a b : Nat) (h : a + b < 9007199254740992) : floatBits .add .f64 (fN a) (fN b) = some (fN (a + b)) := fN_add a b h

/-- The comparisons, as a walk meets them. -/
theorem lt_fN (a b : Nat) (ha : a < 9007199254740992) (hb : b < 9007199254740992) : (FloatKind.f64.format.order (fN a) (fN b) == some .lt) = decide (a < b) := by
  rw [show FloatKind.f64.format = double from rfl, fN_order a b ha hb]
  rcases Nat.lt_trichotomy a b with h | h | h
  · rw [Nat.compare_eq_lt.2 h, decide_eq_true h]; rfl
  · rw [Nat.compare_eq_eq.2 h, decide_eq_false (by omega)]; rfl
  · rw [Nat.compare_eq_gt.2 h, decide_eq_false (by omega)]; rfl

theorem eq_fN (a b : Nat) (ha : a < 9007199254740992) (hb : b < 9007199254740992) : (FloatKind.f64.format.order (fN a) (fN b) == some .eq) = decide (a = b) := by
  rw [show FloatKind.f64.format = double from rfl, fN_order a b ha hb]
  rcases Nat.lt_trichotomy a b with h | h | h
  · rw [Nat.compare_eq_lt.2 h, decide_eq_false (by omega)]; rfl
  · rw [Nat.compare_eq_eq.2 h, decide_eq_true h]; rfl
  · rw [Nat.compare_eq_gt.2 h, decide_eq_false (by omega)]; rfl

theorem gt_fN (a b : Nat) (ha : a < 9007199254740992) (hb : b < 9007199254740992) : (FloatKind.f64.format.order (fN a) (fN b) == some .gt) = decide (b < a) := by
  rw [show FloatKind.f64.format = double from rfl, fN_order a b ha hb]
  rcases Nat.lt_trichotomy a b with h | h | h
  · rw [Nat.compare_eq_lt.2 h, decide_eq_false (by omega)]; rfl
  · rw [Nat.compare_eq_eq.2 h, decide_eq_false (by omega)]; rfl
  · rw [Nat.compare_eq_gt.2 h, decide_eq_true h]; rfl

theorem fN_one : fN 1 = 4607182418800017408 := by decide
theorem fN_zero : fN 0 = 0 := rfl

/-- Costs: the sum of two complex numbers whose parts are whole. -/
theorem cadd_fN (a b c d : Nat) (h1 : a + c < 9007199254740992) (h2 : b + d < 9007199254740992) : cSumBits .add .f64 (fN a) (fN b) (fN c) (fN d) = some (fN (a + c), fN (b + d)) := by
  simp [cSumBits, add_fN a c h1, add_fN b d h2]

/-- How one stands to the edges of the ints of 64 bits. -/
theorem fN_below_edge (n : Nat) (h : n < 9007199254740992) : double.order (fN n) 4890909195324358656 = some .lt := by
  obtain ⟨e, he⟩ := fN_read n h
  have hr : double.read 4890909195324358656 = .number false (2 ^ 52) 11 := by decide +kernel
  unfold Format.order
  rw [he, hr]
  have hbase : min (-(e : Int)) 11 = -(e : Int) := by omega
  have h1 : (-(e : Int) - -(e : Int)).toNat = 0 := by omega
  have h2 : ((11 : Int) - -(e : Int)).toNat = 11 + e := by omega
  have h3 : 2 ^ 52 * 2 ^ (11 + e) = 9223372036854775808 * 2 ^ e := by rw [Nat.pow_add, ← Nat.mul_assoc]
  have hp : 0 < 2 ^ e := Nat.pow_pos (by decide)
  simp only [Datum.order, hbase, h1, h2, signed_pos, h3, Nat.pow_zero, Nat.mul_one]
  have h5 : n * 2 ^ e < 9223372036854775808 * 2 ^ e := (Nat.mul_lt_mul_right hp).2 (by omega)
  rw [Int.compare_eq_lt.2 (by omega)]

theorem fN_above_edge (n : Nat) (h : n < 9007199254740992) : double.order (fN n) 14114281232179134464 = some .gt := by
  obtain ⟨e, he⟩ := fN_read n h
  have hr : double.read 14114281232179134464 = .number true (2 ^ 52) 11 := by decide +kernel
  unfold Format.order
  rw [he, hr]
  have hbase : min (-(e : Int)) 11 = -(e : Int) := by omega
  have h1 : (-(e : Int) - -(e : Int)).toNat = 0 := by omega
  have hs : ∀ u, signed true (2 ^ 52) u < 0 := by
    intro u
    have hp : 0 < 2 ^ 52 * 2 ^ u := Nat.mul_pos (by decide) (Nat.pow_pos (by decide))
    simp only [signed, Nat.shiftLeft_eq, if_true]
    omega
  have h5 := hs ((11 : Int) - -(e : Int)).toNat
  simp only [Datum.order, hbase, h1, signed_pos, Nat.pow_zero, Nat.mul_one]
  rw [Int.compare_eq_gt.2 (by omega)]

/-- 2 to the 40th. -/
theorem fN_most : fN 1099511627776 = 4787326403894837248 := by decide +kernel
theorem fN_two : fN 2 = 4611686018427387904 := by decide +kernel
theorem fN_8 : fN 8 = 4620693217682128896 := by decide +kernel
theorem fN_16 : fN 16 = 4625196817309499392 := by decide +kernel
theorem fN_24 : fN 24 = 4627448617123184640 := by decide +kernel
end Go.Proofs.Ytdnjmlenpelfgaa
