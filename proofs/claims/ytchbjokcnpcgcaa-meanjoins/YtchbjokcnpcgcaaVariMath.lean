/-
  Numbers as bytes of seven bits, the lowest first: how many there are, which they are, and what bytes tell, byte by byte. No Go here: numbers and lists alone.
-/
import Derived.Test.YtchbjokcnpcgcaaTexts
import Derived.Laws.BitsLemmas
import Derived.WalkKit
import Derived.Laws.BytesArg
namespace Go.Proofs.Ytchbjokcnpcgcaa

/-- How many bytes a number takes. -/
def vlen (n : Nat) : Nat := if n < 128 then 1 else vlen (n / 128) + 1
  termination_by n
  decreasing_by omega

/-- Which bytes they are. -/
def vb (n : Nat) : List Nat := if n < 128 then [n] else (n % 128 + 128) :: vb (n / 128)
  termination_by n
  decreasing_by omega

/-- What bytes tell, from the byte at place i on, if those before it tell a. -/
def vgo : List Nat → Nat → Nat → Nat × Nat × Nat
  | [], _, _ => (0, 0, 2)
  | c :: l, i, a => if i = 4 ∧ 15 < c then (0, 0, 4) else if 128 ≤ c then vgo l (i + 1) (a + c % 128 * 128 ^ i) else if c = 0 ∧ 0 < i then (0, 0, 3) else (a + c % 128 * 128 ^ i, i + 1, 0)

theorem vlen_lt (n : Nat) (h : n < 128) : vlen n = 1 := by rw [vlen, if_pos h]
theorem vlen_ge (n : Nat) (h : 128 ≤ n) : vlen n = vlen (n / 128) + 1 := by rw [vlen, if_neg (by omega)]
theorem vb_lt (n : Nat) (h : n < 128) : vb n = [n] := by rw [vb, if_pos h]
theorem vb_ge (n : Nat) (h : 128 ≤ n) : vb n = (n % 128 + 128) :: vb (n / 128) := by rw [vb, if_neg (by omega)]

theorem vlen_pos (n : Nat) : 1 ≤ vlen n := by
  rw [vlen]; split <;> omega

theorem vb_length (n : Nat) : (vb n).length = vlen n := by
  induction n using Nat.strongRecOn with
  | ind n ih =>
    by_cases h : n < 128
    · rw [vb_lt n h, vlen_lt n h]; rfl
    · rw [vb_ge n (by omega), vlen_ge n (by omega), List.length_cons, ih _ (by omega)]

theorem vb_byte (n : Nat) : ∀ x ∈ vb n, x < 256 := by
  induction n using Nat.strongRecOn with
  | ind n ih =>
    by_cases h : n < 128
    · rw [vb_lt n h]; intro x hx; simp at hx; omega
    · rw [vb_ge n (by omega)]; intro x hx
      rcases List.mem_cons.1 hx with rfl | hx
      · omega
      · exact ih _ (by omega) x hx

theorem vlen_mono (n m : Nat) (h : n ≤ m) : vlen n ≤ vlen m := by
  induction m using Nat.strongRecOn generalizing n with
  | ind m ih =>
    by_cases hn : n < 128
    · rw [vlen_lt n hn]; exact vlen_pos m
    · rw [vlen_ge n (by omega), vlen_ge m (by omega)]
      have := ih (m / 128) (by omega) (n / 128) (Nat.div_le_div_right h)
      omega

theorem vlen_five (n : Nat) (h : n < 34359738368) : vlen n ≤ 5 := by
  have h1 := vlen_mono n 34359738367 (by omega)
  rw [vlen_ge 34359738367 (by decide), vlen_ge (34359738367 / 128) (by decide), vlen_ge (34359738367 / 128 / 128) (by decide), vlen_ge (34359738367 / 128 / 128 / 128) (by decide), vlen_lt (34359738367 / 128 / 128 / 128 / 128) (by decide)] at h1
  exact h1

theorem vlen_one (n : Nat) : vlen n = 1 ↔ n < 128 := by
  by_cases h : n < 128
  · rw [vlen_lt n h]; simp [h]
  · rw [vlen_ge n (by omega)]
    have := vlen_pos (n / 128)
    omega

/-- The bytes of a number, with whatever behind them, tell the number. -/
theorem vgo_vb (m : Nat) : ∀ (r : List Nat) (i a : Nat), (m ≠ 0 ∨ i = 0) → i ≤ 4 → m * 128 ^ i < 4294967296 → vgo (vb m ++ r) i a = (a + m * 128 ^ i, i + vlen m, 0) := by
  induction m using Nat.strongRecOn with
  | ind m ih =>
    intro r i a h0 hi hm
    by_cases h : m < 128
    · rw [vb_lt m h, vlen_lt m h, List.singleton_append, vgo, if_neg (by rintro ⟨rfl, h15⟩; omega), if_neg (by omega), if_neg (by omega), Nat.mod_eq_of_lt h]
    · have hne : i ≠ 4 := by rintro rfl; omega
      have hd : m / 128 * 128 ^ (i + 1) + m % 128 * 128 ^ i = m * 128 ^ i := by
        rw [Nat.pow_succ, Nat.mul_comm (128 ^ i) 128, ← Nat.mul_assoc, ← Nat.add_mul, Nat.mul_comm (m / 128) 128, Nat.div_add_mod]
      rw [vb_ge m (by omega), vlen_ge m (by omega), List.cons_append, vgo, if_neg (by omega), if_pos (by omega), ih (m / 128) (by omega) r (i + 1) _ (by omega) (by omega) (by omega)]
      rw [show (m % 128 + 128) % 128 = m % 128 by omega]
      have e1 : a + m % 128 * 128 ^ i + m / 128 * 128 ^ (i + 1) = a + m * 128 ^ i := by omega
      have e2 : i + 1 + vlen (m / 128) = i + (vlen (m / 128) + 1) := by omega
      rw [e1, e2]

theorem vgo_put (n : Nat) (hn : n < 4294967296) (r : List Nat) : vgo (vb n ++ r) 0 0 = (n, vlen n, 0) := by
  rw [vgo_vb n r 0 0 (.inr rfl) (by omega) (by simpa using hn)]
  simp

theorem vb_inj (n m : Nat) (hn : n < 4294967296) (hm : m < 4294967296) (h : vb n = vb m) : n = m := by
  have a := vgo_put n hn []
  have b := vgo_put m hm []
  rw [h, b] at a
  exact (congrArg Prod.fst a).symm

/-- Beside an error nothing is told. -/
theorem vgo_err (l : List Nat) : ∀ (i a : Nat), (vgo l i a).2.2 ≠ 0 → (vgo l i a).1 = 0 ∧ (vgo l i a).2.1 = 0 := by
  induction l with
  | nil => intro i a _; simp [vgo]
  | cons c l ih =>
    intro i a
    rw [vgo]
    split
    · simp
    · split
      · exact ih _ _
      · split
        · simp
        · simp

/-- Bytes that tell a number are just that number's, and fewer of them are none. -/
theorem vgo_ok (l : List Nat) : (∀ x ∈ l, x < 256) → ∀ (i a : Nat), i ≤ 4 → (vgo l i a).2.2 = 0 → ∃ m, vgo l i a = (a + m * 128 ^ i, i + vlen m, 0) ∧ vb m = l.take (vlen m) ∧ vlen m ≤ l.length ∧ (m ≠ 0 ∨ i = 0) ∧ (m + 1) * 128 ^ i ≤ 4294967296 ∧ ∀ j, j < vlen m → vgo (l.take j) i a = (0, 0, 2) := by
  induction l with
  | nil => intro _ i a _ h; simp [vgo] at h
  | cons c l ih =>
    intro hx i a hi
    rw [vgo]
    split
    · intro h; simp at h
    · rename_i h4
      split
      · rename_i h128
        intro h
        have hi3 : i ≤ 3 := by omega
        obtain ⟨m, he, hv, hl, hm, hb, hj⟩ := ih (fun x h => hx x (List.mem_cons_of_mem _ h)) (i + 1) _ (by omega) h
        have hm0 : m ≠ 0 := by omega
        by_cases hc : c < 256
        · have hd : (c % 128 + 128 * m) / 128 = m := by omega
          have hr : (c % 128 + 128 * m) % 128 = c % 128 := by omega
          have hp : (c % 128 + 128 * m) * 128 ^ i = c % 128 * 128 ^ i + m * 128 ^ (i + 1) := by
            rw [Nat.add_mul, Nat.pow_succ, Nat.mul_comm (128 ^ i) 128, ← Nat.mul_assoc m, Nat.mul_comm m 128]
          have hq : (c % 128 + 128 * m + 1) * 128 ^ i ≤ (m + 1) * 128 ^ (i + 1) := by
            rw [Nat.pow_succ, Nat.mul_comm (128 ^ i) 128, ← Nat.mul_assoc]
            exact Nat.mul_le_mul_right _ (by omega)
          refine ⟨c % 128 + 128 * m, ?_, ?_, ?_, .inl (by omega), by omega, ?_⟩
          · rw [he, hp, vlen_ge (c % 128 + 128 * m) (by omega), hd]
            have e1 : a + c % 128 * 128 ^ i + m * 128 ^ (i + 1) = a + (c % 128 * 128 ^ i + m * 128 ^ (i + 1)) := by omega
            have e2 : i + 1 + vlen m = i + (vlen m + 1) := by omega
            rw [e1, e2]
          · rw [vlen_ge _ (by omega), vb_ge _ (by omega), hd, hr, hv, List.take_succ_cons]
            congr 1
            omega
          · rw [vlen_ge _ (by omega), hd, List.length_cons]
            omega
          · intro j hjl
            rw [vlen_ge _ (by omega), hd] at hjl
            cases j with
            | zero => simp [vgo]
            | succ j => rw [List.take_succ_cons, vgo, if_neg h4, if_pos h128, hj j (by omega)]
        · exact absurd (hx c List.mem_cons_self) hc
      · rename_i h128
        split
        · intro h; simp at h
        · rename_i h0
          intro _
          refine ⟨c, ?_, ?_, ?_, by omega, ?_, ?_⟩
          · rw [vlen_lt c (by omega), Nat.mod_eq_of_lt (by omega)]
          · rw [vlen_lt c (by omega), vb_lt c (by omega)]; simp
          · rw [vlen_lt c (by omega)]; simp
          · rcases (show i = 0 ∨ i = 1 ∨ i = 2 ∨ i = 3 ∨ i = 4 by omega) with rfl | rfl | rfl | rfl | rfl <;> omega
          · intro j hj
            rw [vlen_lt c (by omega)] at hj
            obtain rfl : j = 0 := by omega
            simp [vgo]

/-- The bytes one by one. -/
theorem vb_at (n : Nat) : ∀ j, j < vlen n → (vb n)[j]? = some (n / 128 ^ j % 128 + if j + 1 < vlen n then 128 else 0) := by
  induction n using Nat.strongRecOn with
  | ind n ih =>
    intro j hj
    by_cases h : n < 128
    · rw [vlen_lt n h] at hj
      obtain rfl : j = 0 := by omega
      rw [vb_lt n h, vlen_lt n h, if_neg (by omega)]
      simp
      omega
    · rw [vlen_ge n (by omega)] at hj ⊢
      rw [vb_ge n (by omega)]
      have := vlen_pos (n / 128)
      cases j with
      | zero => rw [if_pos (by omega)]; simp
      | succ j =>
        rw [List.getElem?_cons_succ, ih (n / 128) (by omega) j (by omega), Nat.div_div_eq_div_mul, Nat.pow_succ, Nat.mul_comm 128]
        simp only [Nat.add_lt_add_iff_right]

theorem nums_vb (n : Nat) : nums (bytesOf (vb n)) = vb n := nums_bytesOf _ (vb_byte n)

/-- What a text tells, and the number's text. -/
def vget (b : ByteArray) : Nat × Nat × Nat := vgo (nums b) 0 0
def vtext (n : Nat) : ByteArray := bytesOf (vb n)

theorem vtext_size (n : Nat) : (vtext n).size = vlen n := by rw [vtext, bytesOf_size, vb_length]

theorem vget_text (n : Nat) (hn : n < 4294967296) (b : ByteArray) : vget (vtext n ++ b) = (n, vlen n, 0) := by
  rw [vget, nums_append, vtext, nums_vb, vgo_put n hn]

theorem vtext_inj (n m : Nat) (hn : n < 4294967296) (hm : m < 4294967296) (h : vtext n = vtext m) : n = m := by
  apply vb_inj n m hn hm
  rw [← nums_vb n, ← nums_vb m]
  exact congrArg nums h

theorem vget_err (b : ByteArray) (h : (vget b).2.2 ≠ 0) : (vget b).1 = 0 ∧ (vget b).2.1 = 0 := vgo_err _ _ _ h

theorem nums_first (b : ByteArray) (j : Nat) : nums (b.extract 0 j) = (nums b).take j := by
  simp [nums, List.map_take]

/-- A text that tells a number begins with that number's text; fewer of its bytes are none. -/
theorem vget_ok (b : ByteArray) (h : (vget b).2.2 = 0) : ∃ n, n < 4294967296 ∧ vget b = (n, vlen n, 0) ∧ vtext n = b.extract 0 (vlen n) ∧ vlen n ≤ b.size ∧ ∀ j, j < vlen n → vget (b.extract 0 j) = (0, 0, 2) := by
  obtain ⟨m, he, hv, hl, _, hb, hj⟩ := vgo_ok (nums b) (nums_byte b) 0 0 (by omega) h
  refine ⟨m, by omega, ?_, ?_, by rwa [nums_length] at hl, fun j hjl => ?_⟩
  · rw [vget, he]; simp
  · apply nums_inj
    rw [vtext, nums_vb, hv, nums_first]
  · rw [vget, nums_first]; exact hj j hjl

end Go.Proofs.Ytchbjokcnpcgcaa
