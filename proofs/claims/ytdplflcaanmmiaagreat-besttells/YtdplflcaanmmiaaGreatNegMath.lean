/-
  Whole numbers, also such as are below 0, as floats of 64 bits: what their words stand for, when two are alike. No Go here.
-/
import Derived.Test.YtdplflcaanmmiaaGreatCosts
namespace Go.Proofs.YtdplflcaanmmiaaGreat
open Ieee

/-- The word of a whole number. -/
def iN (x : Int) : Nat := double.nearest (decide (x < 0)) x.natAbs 0

theorem iN_nat (n : Nat) : iN (n : Int) = fN n := by
  unfold iN fN
  rw [decide_eq_false (by omega), Int.natAbs_natCast]

theorem ofInt_iN (x : Int) : floatOfInt .f64 x = iN x := rfl

theorem fN_small (n : Nat) (h : n < 9007199254740992) : fN n < 9223372036854775808 := by
  by_cases h0 : n = 0
  · subst h0; decide
  · have hL := log2_le n h
    have h2 := (Nat.log2_eq_iff h0).1 rfl
    have h3 : n * 2 ^ (52 - n.log2) < 9007199254740992 := by
      have h4 : n * 2 ^ (52 - n.log2) < 2 ^ (n.log2 + 1) * 2 ^ (52 - n.log2) := (Nat.mul_lt_mul_right (Nat.pow_pos (by decide))).2 h2.2
      rw [← Nat.pow_add, show n.log2 + 1 + (52 - n.log2) = 53 by omega] at h4
      exact h4
    rw [fN_rung n h0 h]
    generalize n * 2 ^ (52 - n.log2) = K at *
    generalize n.log2 = L at *
    omega

theorem near_neg (m : Nat) (p : Int) : double.nearest true m p = 9223372036854775808 + double.nearest false m p := by
  have hs : double.signWeight = 9223372036854775808 := by decide
  unfold Format.nearest
  split
  · simp [Format.word, hs]
  · simp only [Format.word, hs, if_true, Bool.false_eq_true, if_false]
    rfl

theorem read_neg (k : Nat) (h : k < 9223372036854775808) : double.read (9223372036854775808 + k) = (double.read k).opposite := by
  have hs : double.signWeight = 9223372036854775808 := by decide
  unfold Format.read
  simp only [hs]
  have d1 : (9223372036854775808 + k) / 9223372036854775808 = 1 := by omega
  have d2 : (9223372036854775808 + k) % 9223372036854775808 = k := by omega
  have d3 : k / 9223372036854775808 = 0 := by omega
  have d4 : k % 9223372036854775808 = k := by omega
  rw [d1, d2, d3, d4]
  split
  · rfl
  · split
    · rfl
    · split
      · rfl
      · rfl

theorem iN_read (x : Int) (h : x.natAbs < 9007199254740992) : ∃ e : Nat, double.read (iN x) = .number (decide (x < 0)) (x.natAbs * 2 ^ e) (-(e : Int)) := by
  obtain ⟨e, he⟩ := fN_read x.natAbs h
  refine ⟨e, ?_⟩
  unfold iN
  by_cases h0 : x < 0
  · rw [decide_eq_true h0, near_neg]
    rw [show double.nearest false x.natAbs 0 = fN x.natAbs from rfl, read_neg _ (fN_small _ h), he]
    rfl
  · rw [decide_eq_false h0]
    exact he

theorem signed_of (x : Int) (u : Nat) : signed (decide (x < 0)) x.natAbs u = x * ((2 ^ u : Nat) : Int) := by
  unfold signed
  by_cases h0 : x < 0
  · rw [decide_eq_true h0, if_pos rfl, Nat.shiftLeft_eq, Int.natCast_mul]
    rw [show ((x.natAbs : Nat) : Int) = -x by omega, Int.neg_mul, Int.neg_neg]
  · rw [decide_eq_false h0, if_neg (by decide), Nat.shiftLeft_eq, Int.natCast_mul]
    rw [show ((x.natAbs : Nat) : Int) = x by omega]

/-- How two stand to each other. -/
theorem iN_order (a b : Int) (ha : a.natAbs < 9007199254740992) (hb : b.natAbs < 9007199254740992) : double.order (iN a) (iN b) = some (compare a b) := by
  obtain ⟨e, he⟩ := iN_read a ha
  obtain ⟨f, hf⟩ := iN_read b hb
  unfold Format.order
  rw [he, hf]
  obtain ⟨k, hk⟩ : ∃ k, k = max e f := ⟨_, rfl⟩
  have hbase : min (-(e : Int)) (-(f : Int)) = -(k : Int) := by omega
  have h1 : (-(e : Int) - -(k : Int)).toNat = k - e := by omega
  have h2 : (-(f : Int) - -(k : Int)).toNat = k - f := by omega
  have hs : ∀ (x : Int) (u v : Nat), signed (decide (x < 0)) (x.natAbs * 2 ^ u) v = x * ((2 ^ (u + v) : Nat) : Int) := by
    intro x u v
    rw [← signed_of x (u + v)]
    unfold signed
    rw [Nat.shiftLeft_eq, Nat.shiftLeft_eq, Nat.mul_assoc, ← Nat.pow_add]
  simp only [Datum.order, hbase, h1, h2, hs]
  rw [show e + (k - e) = k by omega, show f + (k - f) = k by omega]
  have hp : (0 : Int) < ((2 ^ k : Nat) : Int) := by have : 0 < 2 ^ k := Nat.pow_pos (by decide); omega
  congr 1
  rcases Int.lt_trichotomy a b with h | h | h
  · rw [Int.compare_eq_lt.2 h, Int.compare_eq_lt.2 (Int.mul_lt_mul_of_pos_right h hp)]
  · subst h
    rw [Int.compare_eq_eq.2 rfl, Int.compare_eq_eq.2 rfl]
  · rw [Int.compare_eq_gt.2 h, Int.compare_eq_gt.2 (Int.mul_lt_mul_of_pos_right h hp)]

theorem eq_iN (a b : Int) (ha : a.natAbs < 9007199254740992) (hb : b.natAbs < 9007199254740992) : (FloatKind.f64.format.order (iN a) (iN b) == some .eq) = decide (a = b) := by
  rw [show FloatKind.f64.format = double from rfl, iN_order a b ha hb]
  rcases Int.lt_trichotomy a b with h | h | h
  · rw [Int.compare_eq_lt.2 h, decide_eq_false (by omega)]; rfl
  · rw [Int.compare_eq_eq.2 h, decide_eq_true h]; rfl
  · rw [Int.compare_eq_gt.2 h, decide_eq_false (by omega)]; rfl

theorem iN_seven : iN 7 = 4619567317775286272 := by decide +kernel
end Go.Proofs.YtdplflcaanmmiaaGreat
