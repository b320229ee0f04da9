/-
  Bits as numbers: what the bits of a text are from a place on, what a writer's bits are as whole bytes, and how the two meet. No Go here: numbers and lists alone.
-/
import Derived.Laws.BitsLemmas
import Derived.WalkKit
namespace Go.Proofs.Ytlnhfdcmnlinkaa

/-- The byte of a text at a place, as a number; 0 behind its end. -/
def byteN (b : ByteArray) (i : Nat) : Nat := if h : i < b.size then (b[i]'h).toNat else 0

theorem byteN_lt (b : ByteArray) (i : Nat) : byteN b i < 256 := by
  unfold byteN
  split
  · exact UInt8.toNat_lt _
  · decide

theorem byteN_in (b : ByteArray) (i : Nat) (h : i < b.size) : byteN b i = (b[i]'h).toNat := by
  unfold byteN; rw [dif_pos h]

theorem byteN_out (b : ByteArray) (i : Nat) (h : b.size ≤ i) : byteN b i = 0 := by
  unfold byteN; rw [dif_neg (by omega)]

/-- The bit of a text at a place, the greatest of each byte first; 0 behind its end. -/
def bitN (b : ByteArray) (k : Nat) : Nat := byteN b (k / 8) / 2 ^ (7 - k % 8) % 2

theorem bitN_lt (b : ByteArray) (k : Nat) : bitN b k < 2 := Nat.mod_lt _ (by decide)

theorem bitN_out (b : ByteArray) (k : Nat) (h : 8 * b.size ≤ k) : bitN b k = 0 := by
  unfold bitN; rw [byteN_out b _ (by omega)]; simp

/-- The number that n bits are, from a place on. -/
def num (b : ByteArray) (g : Nat) : Nat → Nat
  | 0 => 0
  | n + 1 => 2 * num b g n + bitN b (g + n)

theorem num_lt (b : ByteArray) (g n : Nat) : num b g n < 2 ^ n := by
  induction n with
  | zero => simp [num]
  | succ n ih => have := bitN_lt b (g + n); simp only [num, Nat.pow_succ]; omega

theorem num_add (b : ByteArray) (g m k : Nat) : num b g (m + k) = num b g m * 2 ^ k + num b (g + m) k := by
  induction k with
  | zero => simp [num]
  | succ k ih => rw [← Nat.add_assoc]; simp only [num, ih, Nat.pow_succ, Nat.add_assoc]; rw [Nat.mul_add, ← Nat.mul_assoc, ← Nat.mul_assoc, Nat.mul_comm 2, Nat.mul_assoc (num b g m), Nat.mul_assoc, Nat.mul_comm 2 (2 ^ k)]; omega

theorem num_byte (b : ByteArray) (q : Nat) : num b (8 * q) 8 = byteN b q := by
  have hb := byteN_lt b q
  have e : ∀ i, i < 8 → bitN b (8 * q + i) = byteN b q / 2 ^ (7 - i) % 2 := fun i hi => by
    unfold bitN
    rw [show (8 * q + i) / 8 = q by omega, show (8 * q + i) % 8 = i by omega]
  have e0 := e 0 (by omega); have e1 := e 1 (by omega); have e2 := e 2 (by omega); have e3 := e 3 (by omega)
  have e4 := e 4 (by omega); have e5 := e 5 (by omega); have e6 := e 6 (by omega); have e7 := e 7 (by omega)
  simp only [Nat.add_zero, Nat.reduceSub, Nat.reducePow] at e0 e1 e2 e3 e4 e5 e6 e7
  simp only [num, Nat.add_zero, e0, e1, e2, e3, e4, e5, e6, e7]
  omega

theorem num_bytes (b : ByteArray) (q i : Nat) : num b (8 * q) (8 * (i + 1)) = num b (8 * q) (8 * i) * 256 + byteN b (q + i) := by
  rw [show 8 * (i + 1) = 8 * i + 8 by omega, num_add, show 8 * q + 8 * i = 8 * (q + i) by omega, num_byte]

theorem num_out (b : ByteArray) (g n : Nat) (h : 8 * b.size ≤ g) : num b g n = 0 := by
  induction n with
  | zero => rfl
  | succ n ih => simp only [num, ih, bitN_out b (g + n) (by omega)]

/-- A part of a number of bits is the number of those bits. -/
theorem num_part (b : ByteArray) (g m n t : Nat) : num b g (m + n + t) / 2 ^ t % 2 ^ n = num b (g + m) n := by
  rw [num_add b g (m + n) t, Nat.mul_comm, Nat.mul_add_div (Nat.two_pow_pos t), Nat.div_eq_of_lt (num_lt b _ t), Nat.add_zero, num_add b g m n, Nat.mul_comm, Nat.mul_add_mod, Nat.mod_eq_of_lt (num_lt b _ n)]

/-- What Peek reckons. -/
theorem peek_num (b : ByteArray) (g n : Nat) (hn : n ≤ 32) : num b (8 * (g / 8)) 40 / 2 ^ (40 - g % 8 - n) % 2 ^ n = num b g n := by
  have h := num_part b (8 * (g / 8)) (g % 8) n (40 - g % 8 - n)
  rw [show g % 8 + n + (40 - g % 8 - n) = 40 by omega, show 8 * (g / 8) + g % 8 = g by omega] at h
  exact h

/-- m bytes of a number, the greatest first. -/
def be (N : Nat) : Nat → List Nat
  | 0 => []
  | m + 1 => be (N / 256) m ++ [N % 256]

theorem be_length (N m : Nat) : (be N m).length = m := by
  induction m generalizing N with
  | zero => rfl
  | succ m ih => simp [be, ih]

theorem be_lt (N m : Nat) : ∀ x ∈ be N m, x < 256 := by
  induction m generalizing N with
  | zero => simp [be]
  | succ m ih =>
    intro x hx
    simp only [be, List.mem_append, List.mem_singleton] at hx
    rcases hx with hx | hx
    · exact ih _ x hx
    · omega

theorem be_mod (N m : Nat) : be (N % 256 ^ m) m = be N m := by
  induction m generalizing N with
  | zero => rfl
  | succ m ih =>
    have h1 : N % 256 ^ (m + 1) / 256 = N / 256 % 256 ^ m := by rw [Nat.pow_succ, Nat.mul_comm, Nat.mod_mul_right_div_self]
    have h2 : N % 256 ^ (m + 1) % 256 = N % 256 := by rw [Nat.pow_succ, Nat.mul_comm, Nat.mod_mul_right_mod]
    simp only [be, h1, h2, ih]

theorem be_get (N m i : Nat) (h : i < m) : (be N m)[i]? = some (N / 256 ^ (m - 1 - i) % 256) := by
  induction m generalizing N with
  | zero => omega
  | succ m ih =>
    simp only [be]
    rcases Nat.lt_or_ge i m with hi | hi
    · rw [List.getElem?_append_left (by rw [be_length]; exact hi), ih _ hi, Nat.div_div_eq_div_mul, ← Nat.pow_succ']
      rw [show (m - 1 - i).succ = m + 1 - 1 - i by omega]
    · have : i = m := by omega
      subst this
      rw [List.getElem?_append_right (by rw [be_length]; omega), be_length]
      simp

/-- L bits, as the number N, as whole bytes with 0s behind the last bits. -/
def pad (L : Nat) : Nat := (8 - L % 8) % 8
def packB (N L : Nat) : ByteArray := ⟨((be (N * 2 ^ pad L) ((L + 7) / 8)).map UInt8.ofNat).toArray⟩

theorem packB_size (N L : Nat) : (packB N L).size = (L + 7) / 8 := by simp [packB, ByteArray.size, be_length]

theorem pad_eq (L : Nat) : L + pad L = 8 * ((L + 7) / 8) := by unfold pad; omega

theorem byteN_packB (N L i : Nat) (h : i < (L + 7) / 8) : byteN (packB N L) i = N * 2 ^ pad L / 256 ^ ((L + 7) / 8 - 1 - i) % 256 := by
  have hs : i < (packB N L).size := by rw [packB_size]; exact h
  rw [byteN_in _ _ hs]
  have hg := be_get (N * 2 ^ pad L) _ i h
  have hl : i < (be (N * 2 ^ pad L) ((L + 7) / 8)).length := by rw [be_length]; exact h
  rw [List.getElem?_eq_getElem hl, Option.some.injEq] at hg
  have : (packB N L)[i]'hs = UInt8.ofNat ((be (N * 2 ^ pad L) ((L + 7) / 8))[i]'hl) := by
    simp [packB, ByteArray.getElem_eq_getElem_data]
  rw [this, hg]
  simp

theorem pow256 (m : Nat) : (256 : Nat) ^ m = 2 ^ (8 * m) := by rw [Nat.pow_mul]

/-- The whole bytes of a writer's bits as one number. -/
theorem num_packB_bytes (N L : Nat) (hN : N < 2 ^ L) (i : Nat) (h : i ≤ (L + 7) / 8) : num (packB N L) 0 (8 * i) = N * 2 ^ pad L / 256 ^ ((L + 7) / 8 - i) := by
  induction i with
  | zero =>
    simp only [num, Nat.sub_zero]
    rw [Nat.div_eq_of_lt]
    rw [pow256, ← pad_eq, Nat.pow_add]
    exact Nat.mul_lt_mul_of_pos_right hN (Nat.two_pow_pos _)
  | succ i ih =>
    have hb := num_bytes (packB N L) 0 i
    simp only [Nat.mul_zero, Nat.zero_add] at hb
    rw [hb, ih (by omega), byteN_packB N L i (by omega)]
    have e : (L + 7) / 8 - i = ((L + 7) / 8 - (i + 1)) + 1 := by omega
    rw [e, Nat.pow_succ, ← Nat.div_div_eq_div_mul, show (L + 7) / 8 - 1 - i = (L + 7) / 8 - (i + 1) by omega]
    generalize N * 2 ^ pad L / 256 ^ ((L + 7) / 8 - (i + 1)) = X
    omega

theorem num_packB_all (N L : Nat) (hN : N < 2 ^ L) : num (packB N L) 0 (L + pad L) = N * 2 ^ pad L := by
  rw [pad_eq, num_packB_bytes N L hN _ (Nat.le_refl _)]
  simp

/-- What is read of a writer's bytes. -/
theorem num_packB (N L g n t : Nat) (hN : N < 2 ^ L) (h : g + n + t = L) : num (packB N L) g n = N / 2 ^ t % 2 ^ n := by
  have h1 := num_part (packB N L) 0 g n (t + pad L)
  rw [show g + n + (t + pad L) = L + pad L by omega, num_packB_all N L hN, Nat.zero_add] at h1
  rw [← h1, Nat.add_comm t, Nat.pow_add, ← Nat.div_div_eq_div_mul, Nat.mul_div_cancel _ (Nat.two_pow_pos _)]

theorem num_packB_rest (N L : Nat) (hN : N < 2 ^ L) : num (packB N L) L (pad L) = 0 := by
  have h1 := num_part (packB N L) 0 L (pad L) 0
  rw [Nat.add_zero, num_packB_all N L hN, Nat.zero_add, Nat.pow_zero, Nat.div_one, Nat.mul_mod_left] at h1
  exact h1.symm

theorem be_cat (X Y m k : Nat) (hY : Y < 256 ^ k) : be (X * 256 ^ k + Y) (m + k) = be X m ++ be Y k := by
  induction k generalizing Y with
  | zero => simp at hY; subst hY; simp [be]
  | succ k ih =>
    rw [← Nat.add_assoc]
    simp only [be]
    have h1 : (X * 256 ^ (k + 1) + Y) / 256 = X * 256 ^ k + Y / 256 := by
      rw [Nat.pow_succ, ← Nat.mul_assoc, Nat.mul_comm _ 256, Nat.mul_add_div (by decide)]
    have h2 : (X * 256 ^ (k + 1) + Y) % 256 = Y % 256 := by
      rw [Nat.pow_succ, ← Nat.mul_assoc, Nat.mul_comm _ 256, Nat.mul_add_mod]
    rw [h1, h2, ih (Y / 256) (by rw [Nat.pow_succ] at hY; omega), List.append_assoc]

/-- The bytes of a text from the first on are those of its number. -/
theorem be_num (b : ByteArray) (m : Nat) : be (num b 0 (8 * m)) m = (List.range m).map (byteN b) := by
  induction m with
  | zero => rfl
  | succ m ih =>
    have hb := num_bytes b 0 m
    simp only [Nat.mul_zero, Nat.zero_add] at hb
    have := byteN_lt b m
    rw [hb, be, show (num b 0 (8 * m) * 256 + byteN b m) / 256 = num b 0 (8 * m) by omega, show (num b 0 (8 * m) * 256 + byteN b m) % 256 = byteN b m by omega, ih, List.range_succ]
    simp

theorem packB_num (b : ByteArray) : packB (num b 0 (8 * b.size)) (8 * b.size) = b := by
  have hp : pad (8 * b.size) = 0 := by unfold pad; omega
  have hm : (8 * b.size + 7) / 8 = b.size := by omega
  unfold packB
  rw [hp, hm, Nat.pow_zero, Nat.mul_one, be_num]
  obtain ⟨d⟩ := b
  congr 1
  apply Array.ext
  · simp [ByteArray.size]
  · intro i h1 h2
    simp only [List.map_map, List.getElem_toArray, List.getElem_map, List.getElem_range, Function.comp]
    rw [byteN_in _ _ h2]
    simp [ByteArray.getElem_eq_getElem_data]

/-- The machine's 'or' of what is shifted, and what is below. -/
theorem or_i64 (i : Nat) (x y : Nat) (hy : y < 2 ^ i) (h : x * 2 ^ i < 2 ^ 63) (hi : i ≤ 63) : bits .or .i64 ((x * 2 ^ i : Nat) : Int) (y : Int) = ((x * 2 ^ i + y : Nat) : Int) := by
  have hw : ∀ n : Int, 0 ≤ n → n < 2 ^ 63 → IntKind.i64.wrap n = n := fun n h₀ h₁ => by rw [IntKind.wrap_i64]; omega
  have hp : 2 ^ i ≤ 2 ^ 63 := Nat.pow_le_pow_right (by decide) hi
  have := bits_join .i64 63 (by decide) hw i ((x * 2 ^ i : Nat) : Int) (y : Int) (by omega) (by exact_mod_cast Nat.mul_mod_left _ _) (by exact_mod_cast h) (by omega) (by exact_mod_cast hy) (by exact_mod_cast Nat.lt_of_lt_of_le hy hp)
  rw [this]; simp

/-- The machine's 'and' with the lowest bits. -/
theorem and_i64 (i : Nat) (x : Nat) (hx : x < 2 ^ 63) (hi : i ≤ 63) : bits .and .i64 (x : Int) ((2 ^ i : Nat) - 1 : Int) = ((x % 2 ^ i : Nat) : Int) := by
  have hw : ∀ n : Int, 0 ≤ n → n < 2 ^ 63 → IntKind.i64.wrap n = n := fun n h₀ h₁ => by rw [IntKind.wrap_i64]; omega
  have := bits_mask .i64 63 (by decide) hw i hi (x : Int) (by omega) (by exact_mod_cast hx)
  have e : ((2 ^ i : Nat) : Int) - 1 = (2 : Int) ^ i - 1 := by simp
  rw [e, this]; simp

end Go.Proofs.Ytlnhfdcmnlinkaa
