/-
  Merging two sorted blocks that stand side by side: where they are cut. No Go here.
-/
import Derived.Test.YtmaadeeocppkfaaSortIns
namespace Go.Proofs.Ytmaadeeocppkfaa

/-- Of two blocks that stand side by side: numbers of one key stand in their own order. -/
def Cross (key f : Nat → Nat) (a m b : Nat) : Prop := ∀ i j, a ≤ i → i < m → m ≤ j → j < b → key (f i) = key (f j) → f i < f j

/-- All numbers of the row are small. -/
def Small (f : Nat → Nat) (n : Nat) : Prop := ∀ k, k < n → f k < n

theorem rk_lt {key : Nat → Nat} {x y : Nat} (hx : x < 1048576) (h : key x < key y) : rk key x < rk key y := by unfold rk; omega
theorem rk_le {key : Nat → Nat} {x y : Nat} (hx : x < 1048576) (h : ¬ key y < key x) (h2 : key x = key y → x < y) : rk key x < rk key y := by
  unfold rk
  rcases Nat.lt_or_ge (key x) (key y) with h1 | h1
  · omega
  · have h3 : key x = key y := by omega
    have := h2 h3
    omega

theorem Small.same {f g : Nat → Nat} {a b n : Nat} (h : Small f n) (hs : Same f g a b) (hb : b ≤ n) : Small g n := fun k hk => by
  by_cases h1 : a ≤ k ∧ k < b
  · obtain ⟨k', h2, h3, e⟩ := hs.back k h1.1 h1.2
    rw [e]; exact h k' (by omega)
  · rw [hs.out k (by omega)]; exact h k hk

theorem Srt.part {key f : Nat → Nat} {a b c d : Nat} (h : Srt key f a b) (hc : a ≤ c) (hd : d ≤ b) : Srt key f c d := fun i j h1 h2 h3 => h i j (by omega) h2 (by omega)

theorem Srt.congr {key f g : Nat → Nat} {a b : Nat} (h : Srt key f a b) (he : ∀ k, a ≤ k → k < b → g k = f k) : Srt key g a b := fun i j h1 h2 h3 => by
  rw [he i h1 (by omega), he j (by omega) h3]
  exact h i j h1 h2 h3

/-- One that is moved to the right stands where it belongs. -/
theorem srt_mvR {key f : Nat → Nat} {a i b : Nat} (hs : Srt key f (a + 1) b) (hai : a ≤ i) (hib : i < b) (h1 : ∀ k, a < k → k ≤ i → rk key (f k) < rk key (f a)) (h2 : ∀ k, i < k → k < b → rk key (f a) < rk key (f k)) : Srt key (mvR f a i) a b := by
  intro p q hp hpq hq
  have hL : ∀ k, a ≤ k → k < b → (k < i ∧ mvR f a i k = f (k + 1)) ∨ (k = i ∧ mvR f a i k = f a) ∨ (i < k ∧ mvR f a i k = f k) := by
    intro k h1 hk
    unfold mvR rot
    rcases Nat.lt_trichotomy k i with h | h | h
    · refine .inl ⟨h, ?_⟩
      rw [if_pos (by omega)]
      congr 1; omega
    · refine .inr (.inl ⟨h, ?_⟩)
      rw [if_neg (by omega), if_pos (by omega)]
      congr 1; omega
    · exact .inr (.inr ⟨h, by rw [if_neg (by omega), if_neg (by omega)]⟩)
  rcases hL p hp (by omega) with ⟨hp1, ep⟩ | ⟨hp1, ep⟩ | ⟨hp1, ep⟩ <;> rcases hL q (by omega) (by omega) with ⟨hq1, eq⟩ | ⟨hq1, eq⟩ | ⟨hq1, eq⟩ <;> rw [ep, eq]
  · exact hs (p + 1) (q + 1) (by omega) (by omega) (by omega)
  · exact h1 (p + 1) (by omega) (by omega)
  · exact hs (p + 1) q (by omega) (by omega) (by omega)
  · omega
  · omega
  · exact h2 q hq1 hq
  · omega
  · omega
  · exact hs p q (by omega) hpq hq

theorem same_mvR (f : Nat → Nat) (a i : Nat) (h : a ≤ i) : Same f (mvR f a i) a (i + 1) := same_rot f a (a + 1) (i + 1) (by omega) (by omega)

/-- Two blocks that are cut at start and end, and turned: what is left to do on both sides. -/
structure Cut (key f : Nat → Nat) (a m b mid start fin : Nat) : Prop where
  len : start + fin = mid + m
  lo : a ≤ start
  sm : start ≤ m
  me : m ≤ fin
  hi : fin ≤ b
  smid : start ≤ mid
  amid : a ≤ mid
  midb : mid ≤ b
  left : ∀ i j, a ≤ i → i < start → fin ≤ j → j < b → rk key (f i) < rk key (f j)
  right : ∀ i j, start ≤ i → i < m → m ≤ j → j < fin → rk key (f j) < rk key (f i)

/-- Behind the turning: which ones stand left of the middle. -/
theorem rot_at (f : Nat → Nat) {s m e : Nat} (hs : s ≤ m) (he : m ≤ e) (mid : Nat) (hm : s + e = mid + m) (k : Nat) : (k < s ∧ rot f s m e k = f k) ∨ (s ≤ k ∧ k < mid ∧ rot f s m e k = f (k + (m - s)) ∧ m ≤ k + (m - s) ∧ k + (m - s) < e) ∨ (mid ≤ k ∧ k < e ∧ rot f s m e k = f (k - (e - m)) ∧ s ≤ k - (e - m) ∧ k - (e - m) < m) ∨ (e ≤ k ∧ rot f s m e k = f k) := by
  unfold rot
  by_cases h1 : k < s
  · exact .inl ⟨h1, by rw [if_neg (by omega), if_neg (by omega)]⟩
  · by_cases h2 : k < mid
    · exact .inr (.inl ⟨by omega, h2, by rw [if_pos (by omega)], by omega, by omega⟩)
    · by_cases h3 : k < e
      · exact .inr (.inr (.inl ⟨by omega, h3, by rw [if_neg (by omega), if_pos (by omega)], by omega, by omega⟩))
      · exact .inr (.inr (.inr ⟨by omega, by rw [if_neg (by omega), if_neg (by omega)]⟩))

/-- All that is left of the middle is below all that is right of it. -/
theorem Cut.apart {key f : Nat → Nat} {a m b mid start fin : Nat} (c : Cut key f a m b mid start fin) (h1 : Srt key f a m) (h2 : Srt key f m b) : ∀ i j, a ≤ i → i < mid → mid ≤ j → j < b → rk key (rot f start m fin i) < rk key (rot f start m fin j) := by
  intro i j ha hi hj hb
  have cl := c.len; have c1 := c.lo; have c2 := c.sm; have c3 := c.me; have c4 := c.hi; have c5 := c.smid
  rcases rot_at f c2 c3 mid cl i with ⟨q1, e1⟩ | ⟨q1, q2, e1, q3, q4⟩ | ⟨q1, q2, e1, q3, q4⟩ | ⟨q1, e1⟩
  · rcases rot_at f c2 c3 mid cl j with ⟨r1, e2⟩ | ⟨r1, r2, e2, r3, r4⟩ | ⟨r1, r2, e2, r3, r4⟩ | ⟨r1, e2⟩
    · omega
    · omega
    · rw [e1, e2]; exact h1 _ _ ha (by omega) r4
    · rw [e1, e2]; exact c.left _ _ ha q1 r1 hb
  · rcases rot_at f c2 c3 mid cl j with ⟨r1, e2⟩ | ⟨r1, r2, e2, r3, r4⟩ | ⟨r1, r2, e2, r3, r4⟩ | ⟨r1, e2⟩
    · omega
    · omega
    · rw [e1, e2]; exact c.right _ _ r3 r4 q3 q4
    · rw [e1, e2]; exact h2 _ _ q3 (by omega) hb
  · omega
  · omega

theorem Cut.srt1 {key f : Nat → Nat} {a m b mid start fin : Nat} (c : Cut key f a m b mid start fin) (h1 : Srt key f a m) (h2 : Srt key f m b) : Srt key (rot f start m fin) a start ∧ Srt key (rot f start m fin) start mid ∧ Srt key (rot f start m fin) mid fin ∧ Srt key (rot f start m fin) fin b := by
  have cl := c.len; have c1 := c.lo; have c2 := c.sm; have c3 := c.me; have c4 := c.hi; have c5 := c.smid
  refine ⟨fun i j p1 p2 p3 => ?_, fun i j p1 p2 p3 => ?_, fun i j p1 p2 p3 => ?_, fun i j p1 p2 p3 => ?_⟩ <;>
    rcases rot_at f c2 c3 mid cl i with ⟨q1, e1⟩ | ⟨q1, q2, e1, q3, q4⟩ | ⟨q1, q2, e1, q3, q4⟩ | ⟨q1, e1⟩ <;>
    rcases rot_at f c2 c3 mid cl j with ⟨r1, e2⟩ | ⟨r1, r2, e2, r3, r4⟩ | ⟨r1, r2, e2, r3, r4⟩ | ⟨r1, e2⟩ <;>
    first
      | omega
      | (rw [e1, e2]; first | exact h1 _ _ (by omega) (by omega) (by omega) | exact h2 _ _ (by omega) (by omega) (by omega))

theorem Cut.cross {key f : Nat → Nat} {a m b mid start fin : Nat} (c : Cut key f a m b mid start fin) (hx : Cross key f a m b) : Cross key (rot f start m fin) a start mid ∧ Cross key (rot f start m fin) mid fin b := by
  have cl := c.len; have c1 := c.lo; have c2 := c.sm; have c3 := c.me; have c4 := c.hi; have c5 := c.smid
  refine ⟨fun i j p1 p2 p3 p4 => ?_, fun i j p1 p2 p3 p4 => ?_⟩ <;>
    rcases rot_at f c2 c3 mid cl i with ⟨q1, e1⟩ | ⟨q1, q2, e1, q3, q4⟩ | ⟨q1, q2, e1, q3, q4⟩ | ⟨q1, e1⟩ <;>
    rcases rot_at f c2 c3 mid cl j with ⟨r1, e2⟩ | ⟨r1, r2, e2, r3, r4⟩ | ⟨r1, r2, e2, r3, r4⟩ | ⟨r1, e2⟩ <;>
    first
      | omega
      | (rw [e1, e2]; exact hx _ _ (by omega) (by omega) (by omega) (by omega))

/-- Both sides sorted: all is. -/
theorem srt_join {key f g h : Nat → Nat} {a mid b : Nat} (hamid : a ≤ mid) (hmidb : mid ≤ b) (hap : ∀ i j, a ≤ i → i < mid → mid ≤ j → j < b → rk key (f i) < rk key (f j)) (s1 : Same f g a mid) (t1 : Srt key g a mid) (s2 : Same g h mid b) (t2 : Srt key h mid b) : Srt key h a b ∧ Same f h a b := by
  refine ⟨fun i j p1 p2 p3 => ?_, (s1.wide (Nat.le_refl _) hmidb).trans (s2.wide hamid (Nat.le_refl _))⟩
  rcases Nat.lt_or_ge j mid with q | q
  · rw [s2.out i (by omega), s2.out j (by omega)]
    exact t1 i j p1 p2 q
  · rcases Nat.lt_or_ge i mid with r | r
    · rw [s2.out i (by omega)]
      obtain ⟨i', a1, b1, e1⟩ := s1.back i p1 r
      obtain ⟨j', a2, b2, e2⟩ := s2.back j q p3
      rw [e1, e2, s1.out j' (by omega)]
      exact hap i' j' a1 b1 a2 b2
    · exact t2 i j r p2 p3

/-- The cut, as it is found: lo is where the search began, r where it ended. -/
theorem cut_found {key f : Nat → Nat} {a m b mid start lo r0 : Nat} (hmid : mid = (a + b) / 2) (ham : a < m) (hmb : m < b) (hlo : (m > mid ∧ lo = mid + m - b ∧ r0 = mid) ∨ (m ≤ mid ∧ lo = a ∧ r0 = m))
    (h1 : Srt key f a m) (h2 : Srt key f m b) (hs : lo ≤ start) (hr : start ≤ r0)
    (hL : lo < start → rk key (f (start - 1)) < rk key (f (mid + m - start))) (hR : start < r0 → rk key (f (mid + m - 1 - start)) < rk key (f start)) : Cut key f a m b mid start (mid + m - start) where
  len := by omega
  lo := by omega
  sm := by omega
  me := by omega
  hi := by omega
  smid := by omega
  amid := by omega
  midb := by omega
  left := fun i j p1 p2 p3 p4 => by
    have hlt : lo < start := by omega
    have k1 : rk key (f i) ≤ rk key (f (start - 1)) := by
      rcases Nat.lt_or_ge i (start - 1) with h | h
      · exact Nat.le_of_lt (h1 i (start - 1) p1 h (by omega))
      · rw [show i = start - 1 by omega]; exact Nat.le_refl _
    have k2 : rk key (f (mid + m - start)) ≤ rk key (f j) := by
      rcases Nat.lt_or_ge (mid + m - start) j with h | h
      · exact Nat.le_of_lt (h2 (mid + m - start) j (by omega) h p4)
      · rw [show j = mid + m - start by omega]; exact Nat.le_refl _
    have := hL hlt
    omega
  right := fun i j p1 p2 p3 p4 => by
    have hlt : start < r0 := by omega
    have k1 : rk key (f start) ≤ rk key (f i) := by
      rcases Nat.lt_or_ge start i with h | h
      · exact Nat.le_of_lt (h1 start i (by omega) h p2)
      · rw [show i = start by omega]; exact Nat.le_refl _
    have k2 : rk key (f j) ≤ rk key (f (mid + m - 1 - start)) := by
      rcases Nat.lt_or_ge j (mid + m - 1 - start) with h | h
      · exact Nat.le_of_lt (h2 j (mid + m - 1 - start) p3 h (by omega))
      · rw [show j = mid + m - 1 - start by omega]; exact Nat.le_refl _
    have := hR hlt
    omega
end Go.Proofs.Ytmaadeeocppkfaa
