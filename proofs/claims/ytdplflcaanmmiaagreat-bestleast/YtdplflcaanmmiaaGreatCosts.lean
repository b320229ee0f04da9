/-
  Whole numbers as floats of 64 bits: what their words stand for, their sums, their order, and back. No Go here. Contracts of package vari: what Len, Put and Get answer, for every number and every text, and that they leave memory as it was, new blocks aside. The document's own number as bytes, for every number. And a row of bytes of one's own as a text. Contracts of package cost: Of, Sum, Less, Tokens, Bits, Most, for costs whose parts are whole numbers; the document's Bits.
-/
import Derived.Laws.ComplexArith
import Derived.Test.YtdplflcaanmmiaaGreatRows
import Derived.Test.YtdplflcaanmmiaaGreatBase
import Derived.WalkKit
import Derived.ProofKit
import Derived.OpenShut
import Derived.Below
import Derived.Deep.QuietTactic
import Derived.BigQuiet
import Derived.WalkSmall
import Derived.Handy
import Derived.RegionTactic
import Derived.Deep.OwnRows
import Derived.Laws.BytesArg
import Derived.Laws.Concat
import Derived.Deep.AppendLies
import Derived.Deep.RegionLaw
import Derived.BigRegion
import Derived.Test.YtdplflcaanmmiaaGreatInts
import Derived.WalkLawsBesides
namespace Go.Proofs.YtdplflcaanmmiaaGreat
open Ieee

/-- The word of a whole number. -/
def fN (n : Nat) : Nat := double.nearest false n 0

theorem log2_mul_pow (n k : Nat) (h : n ≠ 0) : (n * 2 ^ k).log2 = n.log2 + k := by
  have h1 : n * 2 ^ k ≠ 0 := Nat.mul_ne_zero h (Nat.pos_iff_ne_zero.1 (Nat.pow_pos (by decide)))
  rw [Nat.log2_eq_iff h1]
  have h2 := (Nat.log2_eq_iff h).1 rfl
  constructor
  · rw [Nat.pow_add]
    exact Nat.mul_le_mul_right _ h2.1
  · rw [show n.log2 + k + 1 = n.log2 + 1 + k by omega, Nat.pow_add]
    exact (Nat.mul_lt_mul_right (Nat.pow_pos (by decide))).2 h2.2

theorem cut_none (way : Toward) (n : Nat) : way.cut false n 0 = n := by
  unfold Toward.cut
  cases way <;> simp [Nat.mod_one]

theorem cut_whole (way : Toward) (n k drop : Nat) (h : n ≠ 0) (hd : drop ≤ k) : way.cut false (n * 2 ^ k) drop = n * 2 ^ (k - drop) := by
  unfold Toward.cut
  have hm : min drop ((n * 2 ^ k).log2 + 2) = drop := by
    rw [log2_mul_pow n k h]
    omega
  have e : n * 2 ^ k = n * 2 ^ (k - drop) * 2 ^ drop := by
    rw [Nat.mul_assoc, ← Nat.pow_add, Nat.sub_add_cancel hd]
  have hp : 0 < 2 ^ drop := Nat.pow_pos (by decide)
  have hq : n * 2 ^ k / 2 ^ drop = n * 2 ^ (k - drop) := by rw [e, Nat.mul_div_cancel _ hp]
  have hr : n * 2 ^ k % 2 ^ drop = 0 := by rw [e, Nat.mul_mod_left]
  rw [hm]
  simp only [Nat.one_shiftLeft, hq, hr]
  cases way
  · have h1 : ¬ (2 ^ drop = 0) := by omega
    simp
  · simp
  · simp
  · simp

theorem log2_le (n : Nat) (h : n < 9007199254740992) : n.log2 ≤ 52 := by
  by_cases h0 : n = 0
  · subst h0; decide
  · have := (Nat.log2_lt h0 (k := 53)).2 h
    omega

/-- Its rung. -/
theorem near_rung (n k : Nat) (h0 : n ≠ 0) (h : n < 9007199254740992) : double.nearest false (n * 2 ^ k) (-(k : Int)) = (n.log2 + 1022) * 4503599627370496 + n * 2 ^ (52 - n.log2) := by
  have hL := log2_le n h
  have hne : n * 2 ^ k ≠ 0 := Nat.mul_ne_zero h0 (Nat.pos_iff_ne_zero.1 (Nat.pow_pos (by decide)))
  have hlast : max (-(k : Int) + ((n * 2 ^ k).log2 : Int) - (double.fractionBits : Int)) double.leastPlace = (n.log2 : Int) - 52 := by
    rw [log2_mul_pow n k h0]
    have : double.leastPlace = -1074 := by decide
    rw [this]
    show max (-(k : Int) + ((n.log2 + k : Nat) : Int) - (52 : Int)) (-1074) = _
    omega
  have hkept : Toward.even.cut false ((n * 2 ^ k) <<< (-(k : Int) - ((n.log2 : Int) - 52)).toNat) (((n.log2 : Int) - 52) - (-(k : Int))).toNat = n * 2 ^ (52 - n.log2) := by
    by_cases hk : k ≤ 52 - n.log2
    · have e1 : (-(k : Int) - ((n.log2 : Int) - 52)).toNat = 52 - n.log2 - k := by omega
      have e2 : (((n.log2 : Int) - 52) - (-(k : Int))).toNat = 0 := by omega
      rw [e1, e2, cut_none, Nat.shiftLeft_eq, Nat.mul_assoc, ← Nat.pow_add, show k + (52 - n.log2 - k) = 52 - n.log2 by omega]
    · have e1 : (-(k : Int) - ((n.log2 : Int) - 52)).toNat = 0 := by omega
      have e2 : (((n.log2 : Int) - 52) - (-(k : Int))).toNat = k - (52 - n.log2) := by omega
      rw [e1, e2, Nat.shiftLeft_zero, cut_whole _ _ _ _ h0 (by omega), show k - (k - (52 - n.log2)) = 52 - n.log2 by omega]
  unfold Format.nearest
  rw [if_neg hne]
  simp only [hlast, hkept]
  have e3 : ((n.log2 : Int) - 52 - double.leastPlace).toNat = n.log2 + 1022 := by
    have : double.leastPlace = -1074 := by decide
    rw [this]; omega
  rw [e3]
  have hb : double.binade = 4503599627370496 := by decide
  have hi : double.infRung = 2047 * 4503599627370496 := by decide
  rw [hb, hi]
  have h2 := (Nat.log2_eq_iff h0).1 rfl
  have h3 : n * 2 ^ (52 - n.log2) < 9007199254740992 := by
    have h4 : n * 2 ^ (52 - n.log2) < 2 ^ (n.log2 + 1) * 2 ^ (52 - n.log2) := (Nat.mul_lt_mul_right (Nat.pow_pos (by decide))).2 h2.2
    rw [← Nat.pow_add, show n.log2 + 1 + (52 - n.log2) = 53 by omega] at h4
    exact h4
  unfold Format.word
  simp only [Bool.false_eq_true, if_false]
  omega

theorem fN_rung (n : Nat) (h0 : n ≠ 0) (h : n < 9007199254740992) : fN n = (n.log2 + 1022) * 4503599627370496 + n * 2 ^ (52 - n.log2) := by
  have := near_rung n 0 h0 h
  simpa [fN] using this

/-- A number that is whole, written with digits behind the point, is that number's word. -/
theorem near_whole (n k : Nat) (h : n < 9007199254740992) : double.nearest false (n * 2 ^ k) (-(k : Int)) = fN n := by
  by_cases h0 : n = 0
  · subst h0
    simp [Format.nearest, fN]
  · rw [near_rung n k h0 h, fN_rung n h0 h]

/-- What it stands for. -/
theorem fN_read (n : Nat) (h : n < 9007199254740992) : ∃ e : Nat, double.read (fN n) = .number false (n * 2 ^ e) (-(e : Int)) := by
  by_cases h0 : n = 0
  · subst h0
    obtain ⟨k, hk⟩ : ∃ k : Nat, k = 1074 := ⟨_, rfl⟩
    refine ⟨k, ?_⟩
    have e : fN 0 = 0 := rfl
    rw [e, Nat.zero_mul, hk]
    rfl
  · refine ⟨52 - n.log2, ?_⟩
    have hL := log2_le n h
    have h2 := (Nat.log2_eq_iff h0).1 rfl
    have h3 : n * 2 ^ (52 - n.log2) < 9007199254740992 := by
      have h4 : n * 2 ^ (52 - n.log2) < 2 ^ (n.log2 + 1) * 2 ^ (52 - n.log2) := (Nat.mul_lt_mul_right (Nat.pow_pos (by decide))).2 h2.2
      rw [← Nat.pow_add, show n.log2 + 1 + (52 - n.log2) = 53 by omega] at h4
      exact h4
    have h5 : 4503599627370496 ≤ n * 2 ^ (52 - n.log2) := by
      have h4 : 2 ^ n.log2 * 2 ^ (52 - n.log2) ≤ n * 2 ^ (52 - n.log2) := Nat.mul_le_mul_right _ h2.1
      rw [← Nat.pow_add, show n.log2 + (52 - n.log2) = 52 by omega] at h4
      exact h4
    rw [fN_rung n h0 h]
    generalize n * 2 ^ (52 - n.log2) = K at *
    generalize n.log2 = L at *
    have hs : double.signWeight = 9223372036854775808 := by decide
    have hb : double.binade = 4503599627370496 := by decide
    have hi : double.infRung = 2047 * 4503599627370496 := by decide
    have hl : double.leastPlace = -1074 := by decide
    unfold Format.read
    simp only [hs, hb, hi, hl]
    have d1 : ((L + 1022) * 4503599627370496 + K) / 9223372036854775808 = 0 := by omega
    have d2 : ((L + 1022) * 4503599627370496 + K) % 9223372036854775808 = (L + 1022) * 4503599627370496 + K := by omega
    have d3 : ((L + 1022) * 4503599627370496 + K) % 4503599627370496 = K - 4503599627370496 := by omega
    have d4 : ((L + 1022) * 4503599627370496 + K) / 4503599627370496 = L + 1023 := by omega
    have c1 : ¬ (L + 1022) * 4503599627370496 + K < 4503599627370496 := by omega
    have c2 : (L + 1022) * 4503599627370496 + K < 2047 * 4503599627370496 := by omega
    have c3 : 4503599627370496 + (K - 4503599627370496) = K := by omega
    have c4 : (-1074 : Int) + ((L + 1023 - 1 : Nat) : Int) = -((52 - L : Nat) : Int) := by omega
    rw [d1, d2, d3, d4, if_neg c1, if_pos c2, c3, c4]
    rfl

theorem signed_pos (m u : Nat) : signed false m u = ((m * 2 ^ u : Nat) : Int) := by
  simp [signed, Nat.shiftLeft_eq]

/-- The sum of two. -/
theorem fN_add (a b : Nat) (h : a + b < 9007199254740992) : double.add (fN a) (fN b) = some (fN (a + b)) := by
  obtain ⟨e, he⟩ := fN_read a (by omega)
  obtain ⟨f, hf⟩ := fN_read b (by omega)
  unfold Format.add
  rw [he, hf]
  obtain ⟨k, hk⟩ : ∃ k, k = max e f := ⟨_, rfl⟩
  have hbase : min (-(e : Int)) (-(f : Int)) = -(k : Int) := by omega
  have h1 : (-(e : Int) - -(k : Int)).toNat = k - e := by omega
  have h2 : (-(f : Int) - -(k : Int)).toNat = k - f := by omega
  have h3 : a * 2 ^ e * 2 ^ (k - e) = a * 2 ^ k := by rw [Nat.mul_assoc, ← Nat.pow_add, show e + (k - e) = k by omega]
  have h4 : b * 2 ^ f * 2 ^ (k - f) = b * 2 ^ k := by rw [Nat.mul_assoc, ← Nat.pow_add, show f + (k - f) = k by omega]
  have h5 : ((a * 2 ^ k : Nat) : Int) + ((b * 2 ^ k : Nat) : Int) = (((a + b) * 2 ^ k : Nat) : Int) := by rw [Nat.add_mul]; omega
  simp only [Datum.sum, hbase, h1, h2, signed_pos, h3, h4, h5]
  have h6 : (if (((a + b) * 2 ^ k : Nat) : Int) = 0 then (false && false) else decide ((((a + b) * 2 ^ k : Nat) : Int) < 0)) = false := by
    split
    · rfl
    · exact decide_eq_false (by omega)
  rw [h6, Int.natAbs_natCast, Option.map_some]
  show some (double.nearest false ((a + b) * 2 ^ k) (-(k : Int))) = _
  rw [near_whole _ _ h]

/-- How two stand to each other. -/
theorem fN_order (a b : Nat) (ha : a < 9007199254740992) (hb : b < 9007199254740992) : double.order (fN a) (fN b) = some (compare a b) := by
  obtain ⟨e, he⟩ := fN_read a ha
  obtain ⟨f, hf⟩ := fN_read b hb
  unfold Format.order
  rw [he, hf]
  obtain ⟨k, hk⟩ : ∃ k, k = max e f := ⟨_, rfl⟩
  have hbase : min (-(e : Int)) (-(f : Int)) = -(k : Int) := by omega
  have h1 : (-(e : Int) - -(k : Int)).toNat = k - e := by omega
  have h2 : (-(f : Int) - -(k : Int)).toNat = k - f := by omega
  have h3 : a * 2 ^ e * 2 ^ (k - e) = a * 2 ^ k := by rw [Nat.mul_assoc, ← Nat.pow_add, show e + (k - e) = k by omega]
  have h4 : b * 2 ^ f * 2 ^ (k - f) = b * 2 ^ k := by rw [Nat.mul_assoc, ← Nat.pow_add, show f + (k - f) = k by omega]
  have hp : 0 < 2 ^ k := Nat.pow_pos (by decide)
  simp only [Datum.order, hbase, h1, h2, signed_pos, h3, h4]
  congr 1
  rcases Nat.lt_trichotomy a b with h | h | h
  · have h5 : a * 2 ^ k < b * 2 ^ k := (Nat.mul_lt_mul_right hp).2 h
    rw [Nat.compare_eq_lt.2 h, Int.compare_eq_lt.2 (by omega)]
  · subst h
    rw [Nat.compare_eq_eq.2 rfl, Int.compare_eq_eq.2 rfl]
  · have h5 : b * 2 ^ k < a * 2 ^ k := (Nat.mul_lt_mul_right hp).2 h
    rw [Nat.compare_eq_gt.2 h, Int.compare_eq_gt.2 (by omega)]

/-- And back. -/
theorem fN_back (n : Nat) (h : n < 9007199254740992) : (double.read (fN n)).toInt .zero = some (n : Int) := by
  obtain ⟨e, he⟩ := fN_read n h
  rw [he]
  have h1 : (-(e : Int)).toNat = 0 := by omega
  have h2 : (- -(e : Int)).toNat = e := by omega
  have h3 : Toward.zero.cut false (n * 2 ^ e) e = n := by
    by_cases h0 : n = 0
    · subst h0
      unfold Toward.cut
      simp
    · rw [cut_whole _ _ _ _ h0 (Nat.le_refl _), Nat.sub_self, Nat.pow_zero, Nat.mul_one]
  simp only [Datum.toInt, Datum.integral, h1, h2, Nat.shiftLeft_zero, h3, signed_pos, Nat.pow_zero, Nat.mul_one]

theorem fN_inj (a b : Nat) (ha : a < 9007199254740992) (hb : b < 9007199254740992) : fN a = fN b ↔ a = b := by
  constructor
  · intro e
    have h1 := fN_back a ha
    rw [e, fN_back b hb] at h1
    injection h1 with h1
    omega
  · rintro rfl; rfl

theorem ofInt_fN (n : Nat) : floatOfInt .f64 (n : Int) = fN n := by
  unfold floatOfInt FloatKind.nearest FloatKind.encode Format.write fN
  have h1 : decide ((n : Int) < 0) = false := decide_eq_false (by omega)
  rw [h1, Int.natAbs_natCast]
  rfl

theorem toInt_fN (n : Nat) (h : n < 9007199254740992) : floatToIntVal .f64 (fN n) .i64 = some (n : Int) := by
  unfold floatToIntVal FloatKind.decode
  rw [show FloatKind.f64.format = double from rfl, fN_back n h]
  have h1 : IntKind.i64.min ≤ (n : Int) ∧ (n : Int) ≤ IntKind.i64.max := by
    have e1 : IntKind.i64.min = -9223372036854775808 := by decide
    have e2 : IntKind.i64.max = 9223372036854775807 := by decide
    rw [e1, e2]
    omega
  simp only [h1, and_self, if_true]

theorem add_fN (a b : Nat) (h : a + b < 9007199254740992) : floatBits .add .f64 (fN a) (fN b) = some (fN (a + b)) := fN_add a b h

/-- The comparisons, as a walk meets them. -/
theorem lt_fN (a b : Nat) (ha : a < 9007199254740992) (hb : b < 9007199254740992) : (FloatKind.f64.format.order (fN a) (fN b) == some .lt) = decide (a < b) := by
  rw [show FloatKind.f64.format = double from rfl, fN_order a b ha hb]
  rcases Nat.lt_trichotomy a b with h | h | h
  · rw [Nat.compare_eq_lt.2 h, decide_eq_true h]; rfl
  · rw [Nat.compare_eq_eq.2 h, decide_eq_false (by omega)]; rfl
  · rw [Nat.compare_eq_gt.2 h, decide_eq_false (by omega)]; rfl

theorem eq_fN (a b : Nat) (ha : a < 9007199254740992) (hb : b < 9007199254740992) : (FloatKind.f64.format.order (fN a) (fN b) == some .eq) = decide (a = b) := by
  rw [show FloatKind.f64.format = double from rfl, fN_order a b ha hb]
  rcases Nat.lt_trichotomy a b with h | h | h
  · rw [Nat.compare_eq_lt.2 h, decide_eq_false (by omega)]; rfl
  · rw [Nat.compare_eq_eq.2 h, decide_eq_true h]; rfl
  · rw [Nat.compare_eq_gt.2 h, decide_eq_false (by omega)]; rfl

theorem gt_fN (a b : Nat) (ha : a < 9007199254740992) (hb : b < 9007199254740992) : (FloatKind.f64.format.order (fN a) (fN b) == some .gt) = decide (b < a) := by
  rw [show FloatKind.f64.format = double from rfl, fN_order a b ha hb]
  rcases Nat.lt_trichotomy a b with h | h | h
  · rw [Nat.compare_eq_lt.2 h, decide_eq_false (by omega)]; rfl
  · rw [Nat.compare_eq_eq.2 h, decide_eq_false (by omega)]; rfl
  · rw [Nat.compare_eq_gt.2 h, decide_eq_true h]; rfl

theorem fN_one : fN 1 = 4607182418800017408 := by decide
theorem fN_zero : fN 0 = 0 := rfl

/-- Costs: the sum of two complex numbers whose parts are whole. -/
theorem cadd_fN (a b c d : Nat) (h1 : a + c < 9007199254740992) (h2 : b + d < 9007199254740992) : cSumBits .add .f64 (fN a) (fN b) (fN c) (fN d) = some (fN (a + c), fN (b + d)) := by
  simp [cSumBits, add_fN a c h1, add_fN b d h2]

/-- How one stands to the edges of the ints of 64 bits. -/
theorem fN_below_edge (n : Nat) (h : n < 9007199254740992) : double.order (fN n) 4890909195324358656 = some .lt := by
  obtain ⟨e, he⟩ := fN_read n h
  have hr : double.read 4890909195324358656 = .number false (2 ^ 52) 11 := by decide +kernel
  unfold Format.order
  rw [he, hr]
  have hbase : min (-(e : Int)) 11 = -(e : Int) := by omega
  have h1 : (-(e : Int) - -(e : Int)).toNat = 0 := by omega
  have h2 : ((11 : Int) - -(e : Int)).toNat = 11 + e := by omega
  have h3 : 2 ^ 52 * 2 ^ (11 + e) = 9223372036854775808 * 2 ^ e := by rw [Nat.pow_add, ← Nat.mul_assoc]
  have hp : 0 < 2 ^ e := Nat.pow_pos (by decide)
  simp only [Datum.order, hbase, h1, h2, signed_pos, h3, Nat.pow_zero, Nat.mul_one]
  have h5 : n * 2 ^ e < 9223372036854775808 * 2 ^ e := (Nat.mul_lt_mul_right hp).2 (by omega)
  rw [Int.compare_eq_lt.2 (by omega)]

theorem fN_above_edge (n : Nat) (h : n < 9007199254740992) : double.order (fN n) 14114281232179134464 = some .gt := by
  obtain ⟨e, he⟩ := fN_read n h
  have hr : double.read 14114281232179134464 = .number true (2 ^ 52) 11 := by decide +kernel
  unfold Format.order
  rw [he, hr]
  have hbase : min (-(e : Int)) 11 = -(e : Int) := by omega
  have h1 : (-(e : Int) - -(e : Int)).toNat = 0 := by omega
  have hs : ∀ u, signed true (2 ^ 52) u < 0 := by
    intro u
    have hp : 0 < 2 ^ 52 * 2 ^ u := Nat.mul_pos (by decide) (Nat.pow_pos (by decide))
    simp only [signed, Nat.shiftLeft_eq, if_true]
    omega
  have h5 := hs ((11 : Int) - -(e : Int)).toNat
  simp only [Datum.order, hbase, h1, signed_pos, Nat.pow_zero, Nat.mul_one]
  rw [Int.compare_eq_gt.2 (by omega)]

/-- 2 to the 40th. -/
theorem fN_most : fN 1099511627776 = 4787326403894837248 := by decide +kernel
theorem fN_two : fN 2 = 4611686018427387904 := by decide +kernel
theorem fN_8 : fN 8 = 4620693217682128896 := by decide +kernel
theorem fN_16 : fN 16 = 4625196817309499392 := by decide +kernel
theorem fN_24 : fN 24 = 4627448617123184640 := by decide +kernel
end Go.Proofs.YtdplflcaanmmiaaGreat

namespace Go.Proofs.YtdplflcaanmmiaaGreat
open Go.ChangeShapes Go.WideShapes Go.ChangeAt Go.RowKit

set_option maxRecDepth 20000 in
set_option maxHeartbeats 1000000 in
theorem len_in (n : Nat) (hn : n < 4294967296) (w : World) :
    Calls Tryz.prog 72 #[.int .i64 n] w fun e w' => e = .returned (.int .i64 (vlen n : Nat)) ∧ w' = w := by
  go_enter Tryz.func72, Tryz.ntmps72
  go_wp2
  go_loopw [0, 3] (fun vn vs wr => ∃ m k : Nat, vn = .int .i64 m ∧ vs = .int .i64 k ∧ m < 4294967296 ∧ k ≤ 4294967296 ∧ Hid (k + vlen m = vlen n + 1) ∧ wr = w) (fun vn _ _ => (intOf vn).toNat)
  case atStart => exact ⟨n, 1, rfl, rfl, hn, by omega, Nat.add_comm _ _, rfl⟩
  case round =>
    obtain ⟨m, k, rfl, rfl, hm, hk, he, rfl⟩ := hrel
    by_cases h : 128 ≤ m
    · go_wp2
      go_roundw
      case rel => exact ⟨m / 128, k + 1, by go_num, by go_num, by omega, by have := he.out; have := vlen_pos m; have := vlen_five n (by omega); omega, by have h1 := he.out; rw [vlen_ge m h] at h1; show k + 1 + vlen (m / 128) = vlen n + 1; omega, trivial⟩
      case measure => simp [intOf]; omega
    · go_wp2
      go_ret
      have h1 := he.out
      rw [vlen_lt m (by omega)] at h1
      obtain rfl : k = vlen n := by omega
      exact ⟨rfl, rfl⟩

theorem len_out (n : Int) (hn : n < 0 ∨ 4294967295 < n) (w : World) :
    Calls Tryz.prog 72 #[.int .i64 n] w fun e w' => e = .returned (.int .i64 0) ∧ w' = w := by
  rcases hn with h | h
  · go_enter Tryz.func72, Tryz.ntmps72
    go_wp2
    go_ret
    exact ⟨rfl, rfl⟩
  · have h0 : ¬ n < 0 := by omega
    go_enter Tryz.func72, Tryz.ntmps72
    go_wp2
    go_ret
    exact ⟨rfl, rfl⟩

theorem wrap_byte (c : Nat) (hc : c < 256) : wrap64 (c : Int) = (c : Int) := IntWalk.wrap64_in _ ⟨by omega, by omega⟩

theorem index_at (b : ByteArray) (i : Nat) (h : i < b.size) (w : World) : (Instr.index 9 (.string b) (.int .i64 (i : Int))).run Tryz.prog w = .ok (.int .u8 ((b[i]'h).toNat : Int)) w := by
  rw [run_index_string w 9 b .i64 _ Tryz.underlying9, dif_pos ⟨by omega, by omega⟩]
  rfl

theorem Tryz.infoByte : (Tryz.prog.info? 5).map (fun i => (i.zero, i.size, i.bytes)) = some (some (.int .u8 0), 1, 1) := by kernel_rfl

/-- What the cells hold when i bytes are laid. -/
def laid (n i j : Nat) : Value := if j < i then .int .u8 ((n / 128 ^ j % 128 + 128 : Nat) : Int) else .int .u8 0

/-- What Put answers at every integer. -/
def pok (n : Int) : Bool := decide (0 ≤ n ∧ n ≤ 4294967295)
def ptext (n : Int) : ByteArray := if 0 ≤ n ∧ n ≤ 4294967295 then vtext n.toNat else ⟨#[]⟩
def plen (n : Int) : Nat := if 0 ≤ n ∧ n ≤ 4294967295 then vlen n.toNat else 0

theorem len_any (n : Int) (w : World) :
    Calls Tryz.prog 72 #[.int .i64 n] w fun e w' => e = .returned (.int .i64 (plen n : Nat)) ∧ w' = w := by
  by_cases h : 0 ≤ n ∧ n ≤ 4294967295
  · rw [plen, if_pos h]
    obtain ⟨m, rfl⟩ := Int.eq_ofNat_of_zero_le h.1
    exact len_in m (by omega) w
  · rw [plen, if_neg h]
    exact len_out n (by omega) w
end Go.Proofs.YtdplflcaanmmiaaGreat

namespace Go.Proofs.YtdplflcaanmmiaaGreat
open Go.ChangeShapes Go.WideShapes Go.ChangeAt Go.RowKit

theorem conv_own {w : World} {B : Nat} {v : Value} {n : Nat} {xs : List Nat} (h : w.ownsRow B 5 1 v n (octs xs)) :
    (convert 105 9 v).run Tryz.prog w = .ok (.string (bytesOf xs)) w := by
  have hl : xs.length = n := by have := h.1; rw [octs_length] at this; omega
  rcases h.2 with ⟨rfl, rfl⟩ | ⟨g, cap, cur, rfl, hb, hh, hn, _, hcs, hcur⟩
  · obtain rfl : xs = [] := List.eq_nil_of_length_eq_zero hl
    exact run_convert_bytes_nil w 105 5 Tryz.underlying105 Tryz.underlying5 0 0 9 Tryz.underlying9
  · have := run_convert_bytes_arg (P := Tryz.prog) w 105 5 Tryz.underlying105 Tryz.underlying5 g 0 n cap (xs.map fun x : Nat => (x : Int)) (by simpa using hl) (fun i hi => by
      have hc : (octs xs)[i]? = some (.int .u8 (((xs.map fun x : Nat => (x : Int))).getD i 0)) := by
        simp only [octs, List.getElem?_map, List.getD]
        rw [List.getElem?_eq_getElem (by omega)]
        rfl
      rw [← hcur, List.getElem?_take, if_pos (by omega), Array.getElem?_toList] at hc
      rw [Nat.zero_add, cell_of_row w g i cur _ _ hh]
      exact hc) 9 Tryz.underlying9
    rw [this, bytesOf_strs]

theorem number_out (n : Int) (hn : n < 0 ∨ 4294967295 < n) (w : World) :
    Calls Tryz.prog 61 #[.int .i64 n] w fun e w' => e = .returned (.tuple #[.string ⟨#[]⟩, .bool false]) ∧ Below w.heap.size w w' := by
  rcases hn with h | h
  · go_enter Tryz.func61, Tryz.ntmps61
    go_wp2
    exact bodyPost_ret (v := .tuple #[.string ⟨#[]⟩, .bool false]) (by simp [results, Tryz.results61, go_sem]) rfl ⟨rfl, Below.refl _ _⟩
  · have h0 : ¬ n < 0 := by omega
    go_enter Tryz.func61, Tryz.ntmps61
    go_wp2
    exact bodyPost_ret (v := .tuple #[.string ⟨#[]⟩, .bool false]) (by simp [results, Tryz.results61, go_sem]) rfl ⟨rfl, Below.refl _ _⟩

set_option maxRecDepth 20000 in
set_option maxHeartbeats 2000000 in
theorem number_in (n : Nat) (hn : n < 4294967296) (w : World) :
    Calls Tryz.prog 61 #[.int .i64 n] w fun e w' => e = .returned (.tuple #[.string (vtext n), .bool true]) ∧ Below w.heap.size w w' := by
  obtain ⟨i0, hi, hz0, hz1, hz2⟩ := info_parts Tryz.infoByte
  go_enter Tryz.func61, Tryz.ntmps61
  go_wp2
  go_loopw [0, 4] (fun vm u wr => ∃ (m : Nat) (xs : List Nat), vm = .int .i64 m ∧ m < 4294967296 ∧ Hid (xs ++ vb m = vb n) ∧ wr.ownsRow w.heap.size 5 1 u xs.length (octs xs) ∧ Below w.heap.size w wr) (fun vm _ _ => (intOf vm).toNat)
  case atStart => exact ⟨n, [], rfl, hn, rfl, World.ownsRow_nil _ _ _ _, Below.refl _ _⟩
  case round =>
    obtain ⟨m, xs, rfl, hm, he, hown, hbl⟩ := hrel
    have hz := hbl.size
    have hxl : xs.length ≤ 5 := by
      have h1 := congrArg List.length he.out
      rw [List.length_append, vb_length, vb_length] at h1
      have := vlen_five n (by omega)
      omega
    by_cases h : 128 ≤ m
    · have e1 : (128 : Int) + (m : Int) % 128 = ((m % 128 + 128 : Nat) : Int) := by simp; omega
      have E1 : Hid ((128 : Int) + (m : Int) % 128 = ((m % 128 + 128 : Nat) : Int)) := e1
      clear e1
      go_wp2_with (at_builtin; refine wpList_append_lies _ rfl (.tmp 15) (.tmp 20) 105 rfl w.heap.size 5 i0 (.int .u8 0) 1 1 Tryz.underlying105 hi hz0 hz1 hz2 rfl (by decide) u4 xs.length (octs xs) rfl (hown.alloc _) ⟨wr.heap.size, 0, none⟩ 1 1 [.int .u8 (128 + (m : Int) % 128)] rfl rfl (World.news_of_block (heap_alloc_new wr _)) (by intro u hu; simp at hu; subst hu; rfl) (by decide) (by unfold maxLen; omega) (by omega) (by simp; omega) (wr.heap.size + 1) (by simp) ?_; intro g cap' w4 hownY hgrow hat hlt4; rw [E1.out, octs_snoc] at hownY)
      have hbl4 : Below w.heap.size w w4 := (hbl.alloc hz _).grown hgrow (by simp; omega) (fun g hg => (hown.lt g hg).1)
      go_roundw
      case rel => exact ⟨m / 128, xs ++ [m % 128 + 128], by go_num, by omega, by have h1 := he.out; rw [vb_ge m h] at h1; show xs ++ [m % 128 + 128] ++ vb (m / 128) = vb n; rw [List.append_assoc]; exact h1, by simpa using hownY, hbl4⟩
      case measure => simp [intOf]; omega
    · have h1 := he.out
      rw [vb_lt m (by omega)] at h1
      have H1 : Hid (xs ++ [m] = vb n) := h1
      clear h1
      go_wp2_with (at_builtin; refine wpList_append_lies _ rfl (.tmp 22) (.tmp 25) 105 rfl w.heap.size 5 i0 (.int .u8 0) 1 1 Tryz.underlying105 hi hz0 hz1 hz2 rfl (by decide) u4 xs.length (octs xs) rfl (hown.alloc _) ⟨wr.heap.size, 0, none⟩ 1 1 [.int .u8 ((m : Int))] rfl rfl (World.news_of_block (heap_alloc_new wr _)) (by intro u hu; simp at hu; subst hu; rfl) (by decide) (by unfold maxLen; omega) (by omega) (by simp; omega) (wr.heap.size + 1) (by simp) ?_; intro g cap' w4 hownY hgrow hat hlt4; rw [octs_snoc] at hownY; rw [H1.out] at hownY; have cv := conv_own hownY)
      have hbl4 : Below w.heap.size w w4 := (hbl.alloc hz _).grown hgrow (by simp; omega) (fun g hg => (hown.lt g hg).1)
      exact bodyPost_ret (v := .tuple #[.string (bytesOf (vb n)), .bool true]) (by simp [results, Tryz.results61, go_sem]) rfl ⟨rfl, hbl4⟩
end Go.Proofs.YtdplflcaanmmiaaGreat

namespace Go.Proofs.YtdplflcaanmmiaaGreat
open Go.ChangeShapes Go.WideShapes Go.ChangeAt Go.RowKit

/-- A token counts one, a number that is none nothing; and its bits. -/
def tk (x : Int) : Nat := if 0 ≤ x ∧ x < 4294967296 then 1 else 0
def bt (x : Int) : Nat := if 0 ≤ x ∧ x < 4294967296 then 8 * vlen x.toNat else 0

theorem tk_le (x : Int) : tk x ≤ 1 := by unfold tk; split <;> omega
theorem bt_le (x : Int) : bt x ≤ 40 := by
  unfold bt
  split
  · have := vlen_five x.toNat (by omega); omega
  · omega

theorem tk_in (n : Nat) (h : n < 4294967296) : tk (n : Int) = 1 := by unfold tk; rw [if_pos (by omega)]
theorem bt_in (n : Nat) (h : n < 4294967296) : bt (n : Int) = 8 * vlen n := by unfold bt; rw [if_pos (by omega), Int.toNat_natCast]
theorem tk_out (x : Int) (h : x < 0 ∨ 4294967295 < x) : tk x = 0 := by unfold tk; rw [if_neg (by omega)]
theorem bt_out (x : Int) (h : x < 0 ∨ 4294967295 < x) : bt x = 0 := by unfold bt; rw [if_neg (by omega)]

theorem in_or_out (x : Int) : (∃ n : Nat, x = n ∧ n < 4294967296) ∨ (x < 0 ∨ 4294967295 < x) := by
  by_cases h : 0 ≤ x ∧ x < 4294967296
  · exact .inl ⟨x.toNat, by omega, by omega⟩
  · exact .inr (by omega)

theorem tk_bt (x : Int) : tk x = 1 ∧ 8 ≤ bt x ∨ tk x = 0 ∧ bt x = 0 := by
  rcases in_or_out x with ⟨n, rfl, hn⟩ | h
  · rw [tk_in n hn, bt_in n hn]
    have := vlen_pos n
    omega
  · rw [tk_out x h, bt_out x h]
    omega

/-- The costs of lists. -/
def tks (xs : List Int) : Nat := (xs.map tk).sum
def bts (xs : List Int) : Nat := (xs.map bt).sum
theorem tks_nil : tks [] = 0 := rfl
theorem bts_nil : bts [] = 0 := rfl
theorem tks_snoc (xs : List Int) (x : Int) : tks (xs ++ [x]) = tks xs + tk x := by simp [tks]
theorem bts_snoc (xs : List Int) (x : Int) : bts (xs ++ [x]) = bts xs + bt x := by simp [bts]
theorem tks_append (xs ys : List Int) : tks (xs ++ ys) = tks xs + tks ys := by simp [tks]
theorem bts_append (xs ys : List Int) : bts (xs ++ ys) = bts xs + bts ys := by simp [bts]
theorem tks_cons (x : Int) (xs : List Int) : tks (x :: xs) = tk x + tks xs := by simp [tks]
theorem bts_cons (x : Int) (xs : List Int) : bts (x :: xs) = bt x + bts xs := by simp [bts]
theorem tks_le (xs : List Int) : tks xs ≤ xs.length := by
  induction xs with
  | nil => exact Nat.le_refl _
  | cons x xs ih => rw [tks_cons, List.length_cons]; have := tk_le x; omega
theorem bts_le (xs : List Int) : bts xs ≤ 40 * xs.length := by
  induction xs with
  | nil => exact Nat.le_refl _
  | cons x xs ih => rw [bts_cons, List.length_cons]; have := bt_le x; omega

theorem conv_fN (W : World) (n : Nat) : (convert 3 44 (Value.int .i64 (n : Int))).run Tryz.prog W = .ok (.float .f64 (fN n)) W := by
  rw [run_convert_int_float W 3 44 .i64 .f64 (n : Int) (by rw [Tryz.underlying3]; rfl) Tryz.underlying44, ofInt_fN]

theorem back_fN (W : World) (n : Nat) (h : n < 9007199254740992) : (convert 44 3 (Value.float .f64 (fN n))).run Tryz.prog W = .ok (.int .i64 (n : Int)) W :=
  run_convert_float_int W 44 3 .f64 .i64 (fN n) (n : Int) (by rw [Tryz.underlying44]; rfl) Tryz.underlying3 (toInt_fN n h)

theorem of_any (x : Int) (w : World) : Calls Tryz.prog 54 #[.int .i64 x] w fun e w' => e = .returned (.complex .f64 (fN (tk x)) (fN (bt x))) ∧ w' = w := by
  rcases in_or_out x with ⟨n, rfl, hn⟩ | hn
  · rw [tk_in n hn, bt_in n hn]
    have hp := vlen_pos n
    have h5 := vlen_five n (by omega)
    obtain ⟨v, hv⟩ : ∃ v, v = vlen n := ⟨_, rfl⟩
    rw [← hv] at hp h5 ⊢
    have hb0 : ((v : Int) == 0) = false := beq_false_of_ne (by omega)
    have hc := fun W => conv_fN W (8 * v)
    have hm : (v : Int) * 8 = ((8 * v : Nat) : Int) := by omega
    obtain ⟨m, hmm⟩ : ∃ m, m = 8 * v := ⟨_, rfl⟩
    rw [← hmm] at hc hm ⊢
    have HV := hid hv
    clear hv hmm
    rw [fN_one]
    go_enter Tryz.func54, Tryz.ntmps54
    go_wp2_with (go_at_call 72; refine (len_in n hn _).mono ?_; rintro e w1 ⟨rfl, rfl⟩; rw [← HV.out])
    go_ret
    exact ⟨rfl, rfl⟩
  · rw [tk_out x hn, bt_out x hn]
    go_enter Tryz.func54, Tryz.ntmps54
    go_wp2_with (go_at_call 72; refine (len_out x hn _).mono ?_; rintro e w1 ⟨rfl, rfl⟩)
    go_ret
    exact ⟨rfl, rfl⟩

theorem most_any (w : World) : Calls Tryz.prog 87 #[] w fun e w' => e = .returned (.complex .f64 (fN 1099511627776) (fN 1099511627776)) ∧ w' = w := by
  rw [fN_most]
  go_enter Tryz.func87, Tryz.ntmps87
  go_wp2
  go_ret
  exact ⟨rfl, rfl⟩

theorem less_in (a b c d : Nat) (ha : a < 9007199254740992) (hb : b < 9007199254740992) (hc : c < 9007199254740992) (hd : d < 9007199254740992) (w : World) : Calls Tryz.prog 21 #[.complex .f64 (fN a) (fN b), .complex .f64 (fN c) (fN d)] w fun e w' => e = .returned (.bool (decide (a < c ∨ a = c ∧ b < d))) ∧ w' = w := by
  have h2 : (FloatKind.f64.format.order (fN a) (fN c) == some .lt) = decide (a < c) := lt_fN a c ha hc
  have h3 : (FloatKind.f64.format.order (fN b) (fN d) == some .lt) = decide (b < d) := lt_fN b d hb hd
  have h0 := eq_fN a c ha hc
  by_cases h : a = c
  · subst h
    have h1 : (FloatKind.f64.format.order (fN a) (fN a) != some .eq) = false := by unfold bne; rw [h0, decide_eq_true rfl]; rfl
    have e : decide (a < a ∨ a = a ∧ b < d) = decide (b < d) := by apply Bool.eq_iff_iff.2; simp only [decide_eq_true_eq, true_and]; omega
    rw [e]
    clear h0 h2 e
    go_enter Tryz.func21, Tryz.ntmps21
    go_wp2
    all_goals go_ret
    all_goals exact ⟨rfl, rfl⟩
  · have h1 : (FloatKind.f64.format.order (fN a) (fN c) != some .eq) = true := by unfold bne; rw [h0, decide_eq_false h]; rfl
    have e : decide (a < c ∨ a = c ∧ b < d) = decide (a < c) := by apply Bool.eq_iff_iff.2; simp only [decide_eq_true_eq]; omega
    rw [e]
    clear h0 h3 e
    go_enter Tryz.func21, Tryz.ntmps21
    go_wp2
    go_ret
    exact ⟨rfl, rfl⟩

/-- The sum of whatever slice of numbers. -/
theorem sum_any {w : World} {v : Value} {xs : List Int} (hv : Reads w v (nats xs)) (hl : xs.length ≤ 1000000) : Calls Tryz.prog 18 #[v] w fun e w' => e = .returned (.complex .f64 (fN (tks xs)) (fN (bts xs))) ∧ w' = w := by
  have hlen := nats_length xs
  obtain ⟨a, c, rfl, hr⟩ := id hv
  rw [hlen] at *
  clear hr hlen
  go_enter Tryz.func18, Tryz.ntmps18
  go_wp2
  go_loopw [3, 8] (fun vs vi wr => ∃ (i t b : Nat), vs = .complex .f64 (fN t) (fN b) ∧ vi = .int .i64 i ∧ i ≤ xs.length ∧ t ≤ i ∧ b ≤ 40 * i ∧ Hid (t = tks (xs.take i) ∧ b = bts (xs.take i)) ∧ wr = w) (fun _ vi _ => xs.length - (intOf vi).toNat)
  case atStart => exact ⟨0, 0, 0, by first | rfl | (rw [fN_zero]), rfl, by omega, by omega, by omega, ⟨rfl, rfl⟩, rfl⟩
  case round =>
    obtain ⟨i, t, b, rfl, rfl, hi, ht, hb, htb, rfl⟩ := hrel
    by_cases hin : i < xs.length
    · obtain ⟨g, off, rfl, _, hg, hcell⟩ := reads_int hv (by omega)
      have hc1 := hcell i hin
      have hx1 := tk_le (xs[i]'hin)
      have hx2 := bt_le (xs[i]'hin)
      have htb2 : Hid (t + tk (xs[i]'hin) = tks (xs.take (i + 1)) ∧ b + bt (xs[i]'hin) = bts (xs.take (i + 1))) := by
        show _ ∧ _
        rw [List.take_succ_eq_append_getElem hin, tks_snoc, bts_snoc, ← htb.out.1, ← htb.out.2]
        exact ⟨rfl, rfl⟩
      have hadd := fun (T : TypeId) (W : World) => run_complex_sum (P := Tryz.prog) W .add (Or.inl rfl) T .f64 (fN t) (fN b) (fN (tk (xs[i]'hin))) (fN (bt (xs[i]'hin))) _ _ (cadd_fN t b (tk (xs[i]'hin)) (bt (xs[i]'hin)) (by omega) (by omega))
      obtain ⟨x, hx⟩ : ∃ x, x = xs[i]'hin := ⟨_, rfl⟩
      rw [← hx] at hc1 hx1 hx2 htb2 hadd
      clear hcell hx htb
      go_wp2_with (go_at_call 54; refine (of_any x _).mono ?_; rintro e w1 ⟨rfl, rfl⟩)
      go_roundw
      case rel => exact ⟨i + 1, _, _, rfl, by go_num, by omega, by omega, by omega, htb2, trivial⟩
      case measure => simp [intOf]; omega
    · obtain rfl : i = xs.length := by omega
      rw [List.take_length] at htb
      go_wp2
      go_ret
      refine ⟨?_, rfl⟩
      rw [← htb.out.1, ← htb.out.2]
      rfl

/-- The document's own bits. -/
theorem refBits_any (x : Int) (w : World) : Calls Tryz.prog 31 #[.int .i64 x] w fun e w' => e = .returned (.int .i64 (bt x : Nat)) ∧ Below w.heap.size w w' := by
  rcases in_or_out x with ⟨n, rfl, hn⟩ | hn
  · rw [bt_in n hn]
    have hz := vtext_size n
    have h5 := vlen_five n (by omega)
    have hm : (8 : Int) * ((vtext n).size : Int) = ((8 * vlen n : Nat) : Int) := by rw [hz]; omega
    have hs : (vtext n).size ≤ 5 := by omega
    go_enter Tryz.func31, Tryz.ntmps31
    go_wp2_with (go_at_call 61; refine (number_in n hn _).mono ?_; rintro e w1 ⟨rfl, hb1⟩)
    go_ret
    exact ⟨by first | rfl | (congr 2; omega), hb1⟩
  · rw [bt_out x hn]
    go_enter Tryz.func31, Tryz.ntmps31
    go_wp2_with (go_at_call 61; refine (number_out x hn _).mono ?_; rintro e w1 ⟨rfl, hb1⟩)
    go_ret
    exact ⟨by first | rfl | (congr 2; omega), hb1⟩
end Go.Proofs.YtdplflcaanmmiaaGreat
