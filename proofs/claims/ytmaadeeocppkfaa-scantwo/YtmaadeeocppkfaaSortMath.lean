/-
  Sorting a row in place, as functions of the place: exchanges, turned blocks, what is sorted. No Go here.
-/
import Derived.Test.YtmaadeeocppkfaaBase
namespace Go.Proofs.Ytmaadeeocppkfaa

/-- Two places exchanged. -/
def swp2 (f : Nat → Nat) (i j : Nat) : Nat → Nat := fun k => if k = i then f j else if k = j then f i else f k

/-- c places from a on exchanged with those from b on. -/
def swr (f : Nat → Nat) (a b c : Nat) : Nat → Nat := fun k => if a ≤ k ∧ k < a + c then f (k - a + b) else if b ≤ k ∧ k < b + c then f (k - b + a) else f k

/-- What stands from a to m goes behind what stands from m to b. -/
def rot (f : Nat → Nat) (a m b : Nat) : Nat → Nat := fun k => if a ≤ k ∧ k < a + (b - m) then f (k + (m - a)) else if a + (b - m) ≤ k ∧ k < b then f (k - (b - m)) else f k

theorem swr_zero (f : Nat → Nat) (a b : Nat) : swr f a b 0 = f := by
  funext k
  unfold swr
  rw [if_neg (by omega), if_neg (by omega)]

theorem swr_succ (f : Nat → Nat) (a b c : Nat) (hab : a + (c + 1) ≤ b) : swp2 (swr f a b c) (a + c) (b + c) = swr f a b (c + 1) := by
  funext k
  unfold swp2 swr
  by_cases h1 : k = a + c
  · subst h1
    rw [if_pos rfl, if_neg (by omega), if_neg (by omega), if_pos (by omega)]
    first | done | (congr 1 <;> omega)
  · rw [if_neg h1]
    by_cases h2 : k = b + c
    · subst h2
      rw [if_pos rfl, if_neg (by omega), if_neg (by omega), if_neg (by omega), if_pos (by omega)]
      first | done | (congr 1 <;> omega)
    · rw [if_neg h2]
      by_cases h3 : a ≤ k ∧ k < a + c
      · rw [if_pos h3, if_pos (by omega)]
      · rw [if_neg h3]
        by_cases h4 : b ≤ k ∧ k < b + c
        · rw [if_pos h4, if_neg (by omega), if_pos (by omega)]
        · rw [if_neg h4, if_neg (by omega), if_neg (by omega)]

/-- Turning: the left block is the longer one. -/
theorem rot_left (f : Nat → Nat) (m i j : Nat) (hi : i ≤ m) (hji : j < i) : rot (swr f (m - i) m j) (m - (i - j)) m (m + j) = rot f (m - i) m (m + j) := by
  funext k
  unfold rot swr
  by_cases h1 : m - i ≤ k ∧ k < m - i + j
  · rw [if_neg (by omega), if_neg (by omega), if_pos h1, if_pos (by omega)]
    first | done | (congr 1 <;> omega)
  · by_cases h2 : m - i + j ≤ k ∧ k < m - i + j + j
    · rw [if_pos (by omega : m - (i - j) ≤ k ∧ k < m - (i - j) + (m + j - m))]
      rw [if_neg (by omega : ¬ (m - i ≤ k ∧ k < m - i + (m + j - m))), if_pos (by omega : m - i + (m + j - m) ≤ k ∧ k < m + j)]
      by_cases h3 : m ≤ k + (m - (m - (i - j)))
      · rw [if_neg (by omega), if_pos (by omega)]
        first | done | (congr 1 <;> omega)
      · omega
    · by_cases h3 : m - i + j + j ≤ k ∧ k < m + j
      · rw [if_neg (by omega : ¬ (m - (i - j) ≤ k ∧ k < m - (i - j) + (m + j - m))), if_pos (by omega : m - (i - j) + (m + j - m) ≤ k ∧ k < m + j)]
        rw [if_neg (by omega : ¬ (m - i ≤ k ∧ k < m - i + (m + j - m))), if_pos (by omega : m - i + (m + j - m) ≤ k ∧ k < m + j)]
        rw [if_neg (by omega), if_neg (by omega)]
      · rw [if_neg (by omega), if_neg (by omega), if_neg (by omega), if_neg (by omega), if_neg (by omega), if_neg (by omega)]

/-- Turning: the right block is the longer one. -/
theorem rot_right (f : Nat → Nat) (m i j : Nat) (hi : i ≤ m) (hij : i < j) : rot (swr f (m - i) (m + j - i) i) (m - i) m (m + (j - i)) = rot f (m - i) m (m + j) := by
  funext k
  unfold rot swr
  by_cases h1 : m - i ≤ k ∧ k < m + j - 2 * i
  · rw [if_pos (by omega : m - i ≤ k ∧ k < m - i + (m + (j - i) - m)), if_pos (by omega : m - i ≤ k ∧ k < m - i + (m + j - m))]
    rw [if_neg (by omega), if_neg (by omega)]
  · by_cases h2 : m + j - 2 * i ≤ k ∧ k < m + j - i
    · rw [if_neg (by omega : ¬ (m - i ≤ k ∧ k < m - i + (m + (j - i) - m))), if_pos (by omega : m - i + (m + (j - i) - m) ≤ k ∧ k < m + (j - i))]
      rw [if_pos (by omega : m - i ≤ k ∧ k < m - i + (m + j - m)), if_pos (by omega)]
      first | done | (congr 1 <;> omega)
    · by_cases h3 : m + j - i ≤ k ∧ k < m + j
      · rw [if_neg (by omega : ¬ (m - i ≤ k ∧ k < m - i + (m + (j - i) - m))), if_neg (by omega : ¬ (m - i + (m + (j - i) - m) ≤ k ∧ k < m + (j - i)))]
        rw [if_neg (by omega : ¬ (m - i ≤ k ∧ k < m - i + (m + j - m))), if_pos (by omega : m - i + (m + j - m) ≤ k ∧ k < m + j)]
        rw [if_neg (by omega), if_pos (by omega)]
        first | done | (congr 1 <;> omega)
      · rw [if_neg (by omega), if_neg (by omega), if_neg (by omega), if_neg (by omega), if_neg (by omega), if_neg (by omega)]

theorem rot_even (f : Nat → Nat) (m i : Nat) (hi : i ≤ m) : swr f (m - i) m i = rot f (m - i) m (m + i) := by
  funext k
  unfold rot swr
  by_cases h1 : m - i ≤ k ∧ k < m - i + i
  · rw [if_pos h1, if_pos (by omega)]
    first | done | (congr 1 <;> omega)
  · rw [if_neg h1]
    by_cases h2 : m ≤ k ∧ k < m + i
    · rw [if_pos h2, if_neg (by omega), if_pos (by omega)]
      first | done | (congr 1 <;> omega)
    · rw [if_neg h2, if_neg (by omega), if_neg (by omega)]

/-- A number's rank: by its key, then by itself. -/
def rk (key : Nat → Nat) (x : Nat) : Nat := key x * 1048576 + x

/-- From a to b the ranks go up. -/
def Srt (key f : Nat → Nat) (a b : Nat) : Prop := ∀ i j, a ≤ i → i < j → j < b → rk key (f i) < rk key (f j)

/-- What stands between a and b is what stood there, and nothing else has turned. -/
structure Same (f g : Nat → Nat) (a b : Nat) : Prop where
  out : ∀ k, k < a ∨ b ≤ k → g k = f k
  back : ∀ k, a ≤ k → k < b → ∃ k', a ≤ k' ∧ k' < b ∧ g k = f k'
  forth : ∀ k, a ≤ k → k < b → ∃ k', a ≤ k' ∧ k' < b ∧ f k = g k'

theorem Same.refl (f : Nat → Nat) (a b : Nat) : Same f f a b := ⟨fun _ _ => rfl, fun k h1 h2 => ⟨k, h1, h2, rfl⟩, fun k h1 h2 => ⟨k, h1, h2, rfl⟩⟩

theorem Same.trans {f g h : Nat → Nat} {a b : Nat} (p : Same f g a b) (q : Same g h a b) : Same f h a b where
  out := fun k hk => (q.out k hk).trans (p.out k hk)
  back := fun k h1 h2 => by
    obtain ⟨k1, a1, b1, e1⟩ := q.back k h1 h2
    obtain ⟨k2, a2, b2, e2⟩ := p.back k1 a1 b1
    exact ⟨k2, a2, b2, e1.trans e2⟩
  forth := fun k h1 h2 => by
    obtain ⟨k1, a1, b1, e1⟩ := p.forth k h1 h2
    obtain ⟨k2, a2, b2, e2⟩ := q.forth k1 a1 b1
    exact ⟨k2, a2, b2, e1.trans e2⟩

theorem Same.wide {f g : Nat → Nat} {a b c d : Nat} (p : Same f g a b) (hc : c ≤ a) (hd : b ≤ d) : Same f g c d where
  out := fun k hk => p.out k (by omega)
  back := fun k h1 h2 => by
    by_cases hk : a ≤ k ∧ k < b
    · obtain ⟨k1, a1, b1, e1⟩ := p.back k hk.1 hk.2
      exact ⟨k1, by omega, by omega, e1⟩
    · exact ⟨k, h1, h2, p.out k (by omega)⟩
  forth := fun k h1 h2 => by
    by_cases hk : a ≤ k ∧ k < b
    · obtain ⟨k1, a1, b1, e1⟩ := p.forth k hk.1 hk.2
      exact ⟨k1, by omega, by omega, e1⟩
    · exact ⟨k, h1, h2, (p.out k (by omega)).symm⟩

theorem same_rot (f : Nat → Nat) (a m b : Nat) (h1 : a ≤ m) (h2 : m ≤ b) : Same f (rot f a m b) a b where
  out := fun k hk => by unfold rot; rw [if_neg (by omega), if_neg (by omega)]
  back := fun k hk1 hk2 => by
    unfold rot
    by_cases h : a ≤ k ∧ k < a + (b - m)
    · rw [if_pos h]; exact ⟨_, by omega, by omega, rfl⟩
    · rw [if_neg h, if_pos (by omega)]; exact ⟨_, by omega, by omega, rfl⟩
  forth := fun k hk1 hk2 => by
    by_cases h : k < m
    · refine ⟨k + (b - m), by omega, by omega, ?_⟩
      unfold rot
      rw [if_neg (by omega), if_pos (by omega)]
      first | done | (congr 1 <;> omega)
    · refine ⟨k - (m - a), by omega, by omega, ?_⟩
      unfold rot
      rw [if_pos (by omega)]
      first | done | (congr 1 <;> omega)

/-- One of the left goes behind the next ones: exchanged step by step. -/
def mvR (f : Nat → Nat) (a i : Nat) : Nat → Nat := rot f a (a + 1) (i + 1)
/-- One goes ahead of those before it. -/
def mvL (f : Nat → Nat) (j i : Nat) : Nat → Nat := rot f j i (i + 1)

theorem mvR_zero (f : Nat → Nat) (a : Nat) : mvR f a a = f := by
  funext k
  unfold mvR rot
  rw [if_neg (by omega)]
  by_cases h : a + (a + 1 - (a + 1)) ≤ k ∧ k < a + 1
  · rw [if_pos h]; first | done | (congr 1 <;> omega)
  · rw [if_neg h]

theorem mvR_succ (f : Nat → Nat) (a k : Nat) (h : a ≤ k) : swp2 (mvR f a k) k (k + 1) = mvR f a (k + 1) := by
  funext q
  unfold swp2 mvR rot
  by_cases h1 : q = k
  · subst h1
    rw [if_pos rfl, if_neg (by omega), if_neg (by omega), if_pos (by omega)]
    first | done | (congr 1 <;> omega)
  · rw [if_neg h1]
    by_cases h2 : q = k + 1
    · subst h2
      rw [if_pos rfl, if_neg (by omega), if_pos (by omega), if_neg (by omega), if_pos (by omega)]
      first | done | (congr 1 <;> omega)
    · rw [if_neg h2]
      by_cases h3 : a ≤ q ∧ q < k
      · rw [if_pos (by omega), if_pos (by omega)]
      · rw [if_neg (by omega), if_neg (by omega), if_neg (by omega), if_neg (by omega)]

theorem mvL_zero (f : Nat → Nat) (i : Nat) : mvL f i i = f := by
  funext k
  unfold mvL rot
  by_cases h : i ≤ k ∧ k < i + (i + 1 - i)
  · rw [if_pos h]; first | done | (congr 1 <;> omega)
  · rw [if_neg h, if_neg (by omega)]

theorem mvL_succ (f : Nat → Nat) (j i : Nat) (h : j + 1 ≤ i) : swp2 (mvL f (j + 1) i) (j + 1) j = mvL f j i := by
  funext q
  unfold swp2 mvL rot
  by_cases h1 : q = j + 1
  · subst h1
    rw [if_pos rfl, if_neg (by omega), if_neg (by omega), if_neg (by omega), if_pos (by omega)]
    first | done | (congr 1 <;> omega)
  · rw [if_neg h1]
    by_cases h2 : q = j
    · subst h2
      rw [if_pos rfl, if_pos (by omega), if_pos (by omega)]
      first | done | (congr 1 <;> omega)
    · rw [if_neg h2]
      by_cases h3 : j + 1 < q ∧ q < i + 1
      · rw [if_neg (by omega), if_pos (by omega), if_neg (by omega), if_pos (by omega)]
        first | done | (congr 1 <;> omega)
      · rw [if_neg (by omega), if_neg (by omega), if_neg (by omega), if_neg (by omega)]
end Go.Proofs.Ytmaadeeocppkfaa
