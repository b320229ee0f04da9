/-
  Blocks of a row that are sorted, two by two made one. No Go here.
-/
import Derived.Test.YtdplflcaanmmiaaSort
namespace Go.Proofs.Ytdplflcaanmmiaa

/-- The block from A on, of s places (or fewer, at the end of the row), is sorted, and has its own numbers. -/
structure Bk (key f : Nat → Nat) (n A s : Nat) : Prop where
  srt : Srt key f A (min (A + s) n)
  own : ∀ k, A ≤ k → k < A + s → k < n → A ≤ f k ∧ f k < A + s ∧ f k < n

theorem Bk.same {key f g : Nat → Nat} {n A s a b : Nat} (h : Bk key f n A s) (hs : Same f g a b) (ho : A + s ≤ a ∨ b ≤ A) : Bk key g n A s where
  srt := h.srt.congr (fun k h1 h2 => hs.out k (by omega))
  own := fun k h1 h2 h3 => by rw [hs.out k (by omega)]; exact h.own k h1 h2 h3

theorem Bk.cross {key f : Nat → Nat} {n A s : Nat} (h1 : Bk key f n A s) (h2 : Bk key f n (A + s) s) (e : Nat) (he : e ≤ A + s + s) (hn : e ≤ n) : Cross key f A (A + s) e := fun i j p1 p2 p3 p4 _ => by
  have q1 := h1.own i p1 p2 (by omega)
  have q2 := h2.own j p3 (by omega) (by omega)
  omega

theorem Bk.merge {key f g : Nat → Nat} {n A s e : Nat} (h1 : Bk key f n A s) (h2 : Bk key f n (A + s) s) (he : e = min (A + 2 * s) n) (hs : Same f g A e) (ht : Srt key g A e) : Bk key g n A (2 * s) where
  srt := by rw [← he]; exact ht
  own := fun k p1 p2 p3 => by
    obtain ⟨k', a1, b1, e1⟩ := hs.back k p1 (by omega)
    rw [e1]
    rcases Nat.lt_or_ge k' (A + s) with q | q
    · have := h1.own k' a1 q (by omega); omega
    · have := h2.own k' q (by omega) (by omega); omega

theorem Bk.alone {key f : Nat → Nat} {n A s : Nat} (h : Bk key f n A s) (hn : n ≤ A + s) : Bk key f n A (2 * s) where
  srt := by have := h.srt; rw [show min (A + 2 * s) n = min (A + s) n by omega]; exact this
  own := fun k p1 p2 p3 => by have := h.own k p1 (by omega) p3; omega

theorem small_of_same {f : Nat → Nat} {n : Nat} (h : Same (fun k => k) f 0 n) : Small f n := fun k hk => by
  obtain ⟨k', _, b1, e1⟩ := h.back k (Nat.zero_le _) hk
  rw [e1]; exact b1

/-- A block whose numbers are their own places, sorted. -/
theorem Bk.first {key f g : Nat → Nat} {n A s e : Nat} (he : e = min (A + s) n) (hid : ∀ k, A ≤ k → k < e → f k = k) (hs : Same f g A e) (ht : Srt key g A e) : Bk key g n A s where
  srt := by rw [← he]; exact ht
  own := fun k p1 p2 p3 => by
    obtain ⟨k', a1, b1, e1⟩ := hs.back k p1 (by omega)
    rw [e1, hid k' a1 b1]
    omega

/-- Blocks of s places, all from place a on. -/
def BksFrom (key f : Nat → Nat) (n s a : Nat) : Prop := ∀ p, a ≤ p * s → p * s < n → Bk key f n (p * s) s
/-- The first q blocks of s places. -/
def BksTo (key f : Nat → Nat) (n s q : Nat) : Prop := ∀ p, p < q → Bk key f n (p * s) s

theorem two_mul_blk (q s : Nat) : (2 * q) * s = q * (2 * s) ∧ (2 * q + 1) * s = q * (2 * s) + s ∧ (q + 1) * (2 * s) = q * (2 * s) + 2 * s := by
  have e1 : (2 * q) * s = q * (2 * s) := by rw [Nat.mul_comm 2 q, Nat.mul_assoc]
  exact ⟨e1, by rw [Nat.add_mul, e1, Nat.one_mul], by rw [Nat.add_mul, Nat.one_mul]⟩

/-- Two blocks at q * (2 * s). -/
theorem BksFrom.pair {key f : Nat → Nat} {n s q : Nat} (h : BksFrom key f n s (q * (2 * s))) : (q * (2 * s) < n → Bk key f n (q * (2 * s)) s) ∧ (q * (2 * s) + s < n → Bk key f n (q * (2 * s) + s) s) := by
  obtain ⟨e1, e2, _⟩ := two_mul_blk q s
  refine ⟨fun hn => ?_, fun hn => ?_⟩
  · have := h (2 * q) (by omega) (by omega)
    rw [e1] at this; exact this
  · have := h (2 * q + 1) (by omega) (by omega)
    rw [e2] at this; exact this

theorem BksTo.step {key f g : Nat → Nat} {n s q b : Nat} (h : BksTo key f n s q) (hs : Same f g (q * s) b) (hb : Bk key g n (q * s) s) : BksTo key g n s (q + 1) := fun p hp => by
  rcases Nat.lt_or_ge p q with h1 | h1
  · refine (h p h1).same hs (.inl ?_)
    have := Nat.mul_le_mul_right s (show p + 1 ≤ q by omega)
    rw [Nat.add_mul, Nat.one_mul] at this
    exact this
  · rw [show p = q by omega]; exact hb

theorem BksFrom.step {key f g : Nat → Nat} {n s a c b : Nat} (h : BksFrom key f n s a) (hs : Same f g a b) (hab : a ≤ c) (hb : b ≤ c) : BksFrom key g n s c := fun p h1 h2 => (h p (by omega) h2).same hs (.inr (by omega))

/-- All blocks. -/
theorem BksTo.all {key f : Nat → Nat} {n s q : Nat} (h : BksTo key f n s q) (hq : n ≤ q * s) : BksFrom key f n s 0 := fun p _ h2 => h p (by
  rcases Nat.lt_or_ge p q with h1 | h1
  · exact h1
  · have := Nat.mul_le_mul_right s h1; omega)

theorem BksFrom.whole {key f : Nat → Nat} {n s : Nat} (h : BksFrom key f n s 0) (hn : n ≤ s) : Srt key f 0 n := by
  rcases Nat.eq_zero_or_pos n with h0 | h0
  · intro i j _ _ h3; omega
  · have := (h 0 (by omega) (by omega)).srt
    rw [Nat.zero_mul, Nat.zero_add, Nat.min_eq_right hn] at this
    exact this
end Go.Proofs.Ytdplflcaanmmiaa
