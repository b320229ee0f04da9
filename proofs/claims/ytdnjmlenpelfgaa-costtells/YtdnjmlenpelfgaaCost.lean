/-
  Contracts of package cost: Of, Sum, Less, Tokens, Bits, Most, for costs whose parts are whole numbers; the document's Bits.
-/
import Derived.Test.YtdnjmlenpelfgaaFloatMath
import Derived.Test.YtdnjmlenpelfgaaVariRef
import Derived.Test.YtdnjmlenpelfgaaInts
import Derived.WalkLawsBesides
import Derived.BigRegion
namespace Go.Proofs.Ytdnjmlenpelfgaa
open Go.ChangeShapes Go.WideShapes Go.ChangeAt Go.RowKit

/-- A token counts one, a number that is none nothing; and its bits. -/
def tk (x : Int) : Nat := if 0 ≤ x ∧ x < 4294967296 then 1 else 0
def bt (x : Int) : Nat := if 0 ≤ x ∧ x < 4294967296 then 8 * vlen x.toNat else 0

theorem tk_le (x : Int) : tk x ≤ 1 := by unfold tk; split <;> omega
theorem bt_le (x : Int) : bt x ≤ 40 := by
  unfold bt
  split
  · have := vlen_five x.toNat (by omega); omega
  · omega

theorem tk_in (n : Nat) (h : n < 4294967296) : tk (n : Int) = 1 := by unfold tk; rw [if_pos (by omega)]
theorem bt_in (n : Nat) (h : n < 4294967296) : bt (n : Int) = 8 * vlen n := by unfold bt; rw [if_pos (by omega), Int.toNat_natCast]
theorem tk_out (x : Int) (h : x < 0 ∨ 4294967295 < x) : tk x = 0 := by unfold tk; rw [if_neg (by omega)]
theorem bt_out (x : Int) (h : x < 0 ∨ 4294967295 < x) : bt x = 0 := by unfold bt; rw [if_neg (by omega)]

theorem in_or_out (x : Int) : (∃ n : Nat, x = n ∧ n < 4294967296) ∨ (x < 0 ∨ 4294967295 < x) := by
  by_cases h : 0 ≤ x ∧ x < 4294967296
  · exact .inl ⟨x.toNat, by omega, by omega⟩
  · exact .inr (by omega)

theorem tk_bt (x : Int) : tk x = 1 ∧ 8 ≤ bt x ∨ tk x = 0 ∧ bt x = 0 := by
  rcases in_or_out x with ⟨n, rfl, hn⟩ | h
  · rw [tk_in n hn, bt_in n hn]
    have := vlen_pos n
    omega
  · rw [tk_out x h, bt_out x h]
    omega

/-- The costs of lists. -/
def tks (xs : List Int) : Nat := (xs.map tk).sum
def bts (xs : List Int) : Nat := (xs.map bt).sum
theorem tks_nil : tks [] = 0 := rfl
theorem bts_nil : bts [] = 0 := rfl
theorem tks_snoc (xs : List Int) (x : Int) : tks (xs ++ [x]) = tks xs + tk x := by simp [tks]
theorem bts_snoc (xs : List Int) (x : Int) : bts (xs ++ [x]) = bts xs + bt x := by simp [bts]
theorem tks_append (xs ys : List Int) : tks (xs ++ ys) = tks xs + tks ys := by simp [tks]
theorem bts_append (xs ys : List Int) : bts (xs ++ ys) = bts xs + bts ys := by simp [bts]
theorem tks_cons (x : Int) (xs : List Int) : tks (x :: xs) = tk x + tks xs := by simp [tks]
theorem bts_cons (x : Int) (xs : List Int) : bts (x :: xs) = bt x + bts xs := by simp [bts]
theorem tks_le (xs : List Int) : tks xs ≤ xs.length := by
  induction xs with
  | nil => exact Nat.le_refl _
  | cons x xs ih => rw [tks_cons, List.length_cons]; have := tk_le x; omega
theorem bts_le (xs : List Int) : bts xs ≤ 40 * xs.length := by
  induction xs with
  | nil => exact Nat.le_refl _
  | cons x xs ih => rw [bts_cons, List.length_cons]; have := bt_le x; omega

theorem conv_fN (W : World) (n : Nat) : (convert 3 29 (Value.int .i64 (n : Int))).run Try.prog W = .ok (.float .f64 (fN n)) W := by
  rw [run_convert_int_float W 3 29 .i64 .f64 (n : Int) (by rw [Try.underlying3]; rfl) Try.underlying29, ofInt_fN]

theorem back_fN (W : World) (n : Nat) (h : n < 9007199254740992) : (convert 29 3 (Value.float .f64 (fN n))).run Try.prog W = .ok (.int .i64 (n : Int)) W :=
  run_convert_float_int W 29 3 .f64 .i64 (fN n) (n : Int) (by rw [Try.underlying29]; rfl) Try.underlying3 (toInt_fN n h)

theorem of_any (x : Int) (w : World) : Calls Try.prog 12 #[.int .i64 x] w fun e w' => e = .returned (.complex .f64 (fN (tk x)) (fN (bt x))) ∧ w' = w := by
  rcases in_or_out x with ⟨n, rfl, hn⟩ | hn
  · rw [tk_in n hn, bt_in n hn]
    have hp := vlen_pos n
    have h5 := vlen_five n (by omega)
    obtain ⟨v, hv⟩ : ∃ v, v = vlen n := ⟨_, rfl⟩
    rw [← hv] at hp h5 ⊢
    have hb0 : ((v : Int) == 0) = false := beq_false_of_ne (by omega)
    have hc := fun W => conv_fN W (8 * v)
    have hm : (v : Int) * 8 = ((8 * v : Nat) : Int) := by omega
    obtain ⟨m, hmm⟩ : ∃ m, m = 8 * v := ⟨_, rfl⟩
    rw [← hmm] at hc hm ⊢
    have HV := hid hv
    clear hv hmm
    rw [fN_one]
    go_enter Try.func12, Try.ntmps12
    go_wp2_with (go_at_call 18; refine (len_in n hn _).mono ?_; rintro e w1 ⟨rfl, rfl⟩; rw [← HV.out])
    go_ret
    exact ⟨rfl, rfl⟩
  · rw [tk_out x hn, bt_out x hn]
    go_enter Try.func12, Try.ntmps12
    go_wp2_with (go_at_call 18; refine (len_out x hn _).mono ?_; rintro e w1 ⟨rfl, rfl⟩)
    go_ret
    exact ⟨rfl, rfl⟩

theorem whole_in (n : Nat) (h : n < 9007199254740992) (w : World) : Calls Try.prog 20 #[.float .f64 (fN n)] w fun e w' => e = .returned (.int .i64 (n : Int)) ∧ w' = w := by
  have h1 : FloatKind.f64.format.order (fN n) 14114281232179134464 = some .gt := fN_above_edge n h
  have h2 : FloatKind.f64.format.order (fN n) 4890909195324358656 = some .lt := fN_below_edge n h
  have h3 := fun W => back_fN W n h
  go_enter Try.func20, Try.ntmps20
  go_wp2
  go_ret
  exact ⟨rfl, rfl⟩

theorem tokens_in (n m : Nat) (h : n < 9007199254740992) (w : World) : Calls Try.prog 13 #[.complex .f64 (fN n) (fN m)] w fun e w' => e = .returned (.int .i64 (n : Int)) ∧ w' = w := by
  go_enter Try.func13, Try.ntmps13
  go_wp2_with (go_at_call 20; refine (whole_in n h _).mono ?_; rintro e w1 ⟨rfl, rfl⟩)
  go_ret
  exact ⟨rfl, rfl⟩

theorem bits_in (n m : Nat) (h : m < 9007199254740992) (w : World) : Calls Try.prog 14 #[.complex .f64 (fN n) (fN m)] w fun e w' => e = .returned (.int .i64 (m : Int)) ∧ w' = w := by
  go_enter Try.func14, Try.ntmps14
  go_wp2_with (go_at_call 20; refine (whole_in m h _).mono ?_; rintro e w1 ⟨rfl, rfl⟩)
  go_ret
  exact ⟨rfl, rfl⟩

theorem most_any (w : World) : Calls Try.prog 16 #[] w fun e w' => e = .returned (.complex .f64 (fN 1099511627776) (fN 1099511627776)) ∧ w' = w := by
  rw [fN_most]
  go_enter Try.func16, Try.ntmps16
  go_wp2
  go_ret
  exact ⟨rfl, rfl⟩

theorem less_in (a b c d : Nat) (ha : a < 9007199254740992) (hb : b < 9007199254740992) (hc : c < 9007199254740992) (hd : d < 9007199254740992) (w : World) : Calls Try.prog 15 #[.complex .f64 (fN a) (fN b), .complex .f64 (fN c) (fN d)] w fun e w' => e = .returned (.bool (decide (a < c ∨ a = c ∧ b < d))) ∧ w' = w := by
  have h2 : (FloatKind.f64.format.order (fN a) (fN c) == some .lt) = decide (a < c) := lt_fN a c ha hc
  have h3 : (FloatKind.f64.format.order (fN b) (fN d) == some .lt) = decide (b < d) := lt_fN b d hb hd
  have h0 := eq_fN a c ha hc
  by_cases h : a = c
  · subst h
    have h1 : (FloatKind.f64.format.order (fN a) (fN a) != some .eq) = false := by unfold bne; rw [h0, decide_eq_true rfl]; rfl
    have e : decide (a < a ∨ a = a ∧ b < d) = decide (b < d) := by apply Bool.eq_iff_iff.2; simp only [decide_eq_true_eq, true_and]; omega
    rw [e]
    clear h0 h2 e
    go_enter Try.func15, Try.ntmps15
    go_wp2
    all_goals go_ret
    all_goals exact ⟨rfl, rfl⟩
  · have h1 : (FloatKind.f64.format.order (fN a) (fN c) != some .eq) = true := by unfold bne; rw [h0, decide_eq_false h]; rfl
    have e : decide (a < c ∨ a = c ∧ b < d) = decide (a < c) := by apply Bool.eq_iff_iff.2; simp only [decide_eq_true_eq]; omega
    rw [e]
    clear h0 h3 e
    go_enter Try.func15, Try.ntmps15
    go_wp2
    go_ret
    exact ⟨rfl, rfl⟩

/-- The sum of whatever slice of numbers. -/
theorem sum_any {w : World} {v : Value} {xs : List Int} (hv : Reads w v (nats xs)) (hl : xs.length ≤ 1000000) : Calls Try.prog 11 #[v] w fun e w' => e = .returned (.complex .f64 (fN (tks xs)) (fN (bts xs))) ∧ w' = w := by
  have hlen := nats_length xs
  obtain ⟨a, c, rfl, hr⟩ := id hv
  rw [hlen] at *
  clear hr hlen
  go_enter Try.func11, Try.ntmps11
  go_wp2
  go_loopw [3, 8] (fun vs vi wr => ∃ (i t b : Nat), vs = .complex .f64 (fN t) (fN b) ∧ vi = .int .i64 i ∧ i ≤ xs.length ∧ t ≤ i ∧ b ≤ 40 * i ∧ Hid (t = tks (xs.take i) ∧ b = bts (xs.take i)) ∧ wr = w) (fun _ vi _ => xs.length - (intOf vi).toNat)
  case atStart => exact ⟨0, 0, 0, by first | rfl | (rw [fN_zero]), rfl, by omega, by omega, by omega, ⟨rfl, rfl⟩, rfl⟩
  case round =>
    obtain ⟨i, t, b, rfl, rfl, hi, ht, hb, htb, rfl⟩ := hrel
    by_cases hin : i < xs.length
    · obtain ⟨g, off, rfl, _, hg, hcell⟩ := reads_int hv (by omega)
      have hc1 := hcell i hin
      have hx1 := tk_le (xs[i]'hin)
      have hx2 := bt_le (xs[i]'hin)
      have htb2 : Hid (t + tk (xs[i]'hin) = tks (xs.take (i + 1)) ∧ b + bt (xs[i]'hin) = bts (xs.take (i + 1))) := by
        show _ ∧ _
        rw [List.take_succ_eq_append_getElem hin, tks_snoc, bts_snoc, ← htb.out.1, ← htb.out.2]
        exact ⟨rfl, rfl⟩
      have hadd := fun (T : TypeId) (W : World) => run_complex_sum (P := Try.prog) W .add (Or.inl rfl) T .f64 (fN t) (fN b) (fN (tk (xs[i]'hin))) (fN (bt (xs[i]'hin))) _ _ (cadd_fN t b (tk (xs[i]'hin)) (bt (xs[i]'hin)) (by omega) (by omega))
      obtain ⟨x, hx⟩ : ∃ x, x = xs[i]'hin := ⟨_, rfl⟩
      rw [← hx] at hc1 hx1 hx2 htb2 hadd
      clear hcell hx htb
      go_wp2_with (go_at_call 12; refine (of_any x _).mono ?_; rintro e w1 ⟨rfl, rfl⟩)
      go_roundw
      case rel => exact ⟨i + 1, _, _, rfl, by go_num, by omega, by omega, by omega, htb2, trivial⟩
      case measure => simp [intOf]; omega
    · obtain rfl : i = xs.length := by omega
      rw [List.take_length] at htb
      go_wp2
      go_ret
      refine ⟨?_, rfl⟩
      rw [← htb.out.1, ← htb.out.2]
      rfl

/-- The document's own bits. -/
theorem refBits_any (x : Int) (w : World) : Calls Try.prog 10 #[.int .i64 x] w fun e w' => e = .returned (.int .i64 (bt x : Nat)) ∧ Below w.heap.size w w' := by
  rcases in_or_out x with ⟨n, rfl, hn⟩ | hn
  · rw [bt_in n hn]
    have hz := vtext_size n
    have h5 := vlen_five n (by omega)
    have hm : (8 : Int) * ((vtext n).size : Int) = ((8 * vlen n : Nat) : Int) := by rw [hz]; omega
    have hs : (vtext n).size ≤ 5 := by omega
    go_enter Try.func10, Try.ntmps10
    go_wp2_with (go_at_call 19; refine (number_in n hn _).mono ?_; rintro e w1 ⟨rfl, hb1⟩)
    go_ret
    exact ⟨by first | rfl | (congr 2; omega), hb1⟩
  · rw [bt_out x hn]
    go_enter Try.func10, Try.ntmps10
    go_wp2_with (go_at_call 19; refine (number_out x hn _).mono ?_; rintro e w1 ⟨rfl, hb1⟩)
    go_ret
    exact ⟨by first | rfl | (congr 2; omega), hb1⟩
end Go.Proofs.Ytdnjmlenpelfgaa
