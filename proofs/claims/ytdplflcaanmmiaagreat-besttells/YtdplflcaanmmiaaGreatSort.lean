/-
  Sorting a row in place, as functions of the place: exchanges, turned blocks, what is sorted. No Go here. The library's stable sort of numbers: swapRangeCmpFunc, rotateCmpFunc. The library's stable sort of numbers: insertionSortCmpFunc. Merging two sorted blocks that stand side by side: where they are cut. No Go here. The library's stable sort of numbers: symMergeCmpFunc where one of the blocks has one number alone.
-/
import Derived.Test.YtdplflcaanmmiaaGreatBase
import Derived.Test.YtdplflcaanmmiaaGreatCopies
import Derived.Test.YtdplflcaanmmiaaGreatSearch
import Derived.Shelf.RegionOpenPlain
import Derived.Deep.LoopGhost
namespace Go.Proofs.YtdplflcaanmmiaaGreat

/-- Two places exchanged. -/
def swp2 (f : Nat → Nat) (i j : Nat) : Nat → Nat := fun k => if k = i then f j else if k = j then f i else f k

/-- c places from a on exchanged with those from b on. -/
def swr (f : Nat → Nat) (a b c : Nat) : Nat → Nat := fun k => if a ≤ k ∧ k < a + c then f (k - a + b) else if b ≤ k ∧ k < b + c then f (k - b + a) else f k

/-- What stands from a to m goes behind what stands from m to b. -/
def rot (f : Nat → Nat) (a m b : Nat) : Nat → Nat := fun k => if a ≤ k ∧ k < a + (b - m) then f (k + (m - a)) else if a + (b - m) ≤ k ∧ k < b then f (k - (b - m)) else f k

theorem swr_zero (f : Nat → Nat) (a b : Nat) : swr f a b 0 = f := by
  funext k
  unfold swr
  rw [if_neg (by omega), if_neg (by omega)]

theorem swr_succ (f : Nat → Nat) (a b c : Nat) (hab : a + (c + 1) ≤ b) : swp2 (swr f a b c) (a + c) (b + c) = swr f a b (c + 1) := by
  funext k
  unfold swp2 swr
  by_cases h1 : k = a + c
  · subst h1
    rw [if_pos rfl, if_neg (by omega), if_neg (by omega), if_pos (by omega)]
    first | done | (congr 1 <;> omega)
  · rw [if_neg h1]
    by_cases h2 : k = b + c
    · subst h2
      rw [if_pos rfl, if_neg (by omega), if_neg (by omega), if_neg (by omega), if_pos (by omega)]
      first | done | (congr 1 <;> omega)
    · rw [if_neg h2]
      by_cases h3 : a ≤ k ∧ k < a + c
      · rw [if_pos h3, if_pos (by omega)]
      · rw [if_neg h3]
        by_cases h4 : b ≤ k ∧ k < b + c
        · rw [if_pos h4, if_neg (by omega), if_pos (by omega)]
        · rw [if_neg h4, if_neg (by omega), if_neg (by omega)]

/-- Turning: the left block is the longer one. -/
theorem rot_left (f : Nat → Nat) (m i j : Nat) (hi : i ≤ m) (hji : j < i) : rot (swr f (m - i) m j) (m - (i - j)) m (m + j) = rot f (m - i) m (m + j) := by
  funext k
  unfold rot swr
  by_cases h1 : m - i ≤ k ∧ k < m - i + j
  · rw [if_neg (by omega), if_neg (by omega), if_pos h1, if_pos (by omega)]
    first | done | (congr 1 <;> omega)
  · by_cases h2 : m - i + j ≤ k ∧ k < m - i + j + j
    · rw [if_pos (by omega : m - (i - j) ≤ k ∧ k < m - (i - j) + (m + j - m))]
      rw [if_neg (by omega : ¬ (m - i ≤ k ∧ k < m - i + (m + j - m))), if_pos (by omega : m - i + (m + j - m) ≤ k ∧ k < m + j)]
      by_cases h3 : m ≤ k + (m - (m - (i - j)))
      · rw [if_neg (by omega), if_pos (by omega)]
        first | done | (congr 1 <;> omega)
      · omega
    · by_cases h3 : m - i + j + j ≤ k ∧ k < m + j
      · rw [if_neg (by omega : ¬ (m - (i - j) ≤ k ∧ k < m - (i - j) + (m + j - m))), if_pos (by omega : m - (i - j) + (m + j - m) ≤ k ∧ k < m + j)]
        rw [if_neg (by omega : ¬ (m - i ≤ k ∧ k < m - i + (m + j - m))), if_pos (by omega : m - i + (m + j - m) ≤ k ∧ k < m + j)]
        rw [if_neg (by omega), if_neg (by omega)]
      · rw [if_neg (by omega), if_neg (by omega), if_neg (by omega), if_neg (by omega), if_neg (by omega), if_neg (by omega)]

/-- Turning: the right block is the longer one. -/
theorem rot_right (f : Nat → Nat) (m i j : Nat) (hi : i ≤ m) (hij : i < j) : rot (swr f (m - i) (m + j - i) i) (m - i) m (m + (j - i)) = rot f (m - i) m (m + j) := by
  funext k
  unfold rot swr
  by_cases h1 : m - i ≤ k ∧ k < m + j - 2 * i
  · rw [if_pos (by omega : m - i ≤ k ∧ k < m - i + (m + (j - i) - m)), if_pos (by omega : m - i ≤ k ∧ k < m - i + (m + j - m))]
    rw [if_neg (by omega), if_neg (by omega)]
  · by_cases h2 : m + j - 2 * i ≤ k ∧ k < m + j - i
    · rw [if_neg (by omega : ¬ (m - i ≤ k ∧ k < m - i + (m + (j - i) - m))), if_pos (by omega : m - i + (m + (j - i) - m) ≤ k ∧ k < m + (j - i))]
      rw [if_pos (by omega : m - i ≤ k ∧ k < m - i + (m + j - m)), if_pos (by omega)]
      first | done | (congr 1 <;> omega)
    · by_cases h3 : m + j - i ≤ k ∧ k < m + j
      · rw [if_neg (by omega : ¬ (m - i ≤ k ∧ k < m - i + (m + (j - i) - m))), if_neg (by omega : ¬ (m - i + (m + (j - i) - m) ≤ k ∧ k < m + (j - i)))]
        rw [if_neg (by omega : ¬ (m - i ≤ k ∧ k < m - i + (m + j - m))), if_pos (by omega : m - i + (m + j - m) ≤ k ∧ k < m + j)]
        rw [if_neg (by omega), if_pos (by omega)]
        first | done | (congr 1 <;> omega)
      · rw [if_neg (by omega), if_neg (by omega), if_neg (by omega), if_neg (by omega), if_neg (by omega), if_neg (by omega)]

theorem rot_even (f : Nat → Nat) (m i : Nat) (hi : i ≤ m) : swr f (m - i) m i = rot f (m - i) m (m + i) := by
  funext k
  unfold rot swr
  by_cases h1 : m - i ≤ k ∧ k < m - i + i
  · rw [if_pos h1, if_pos (by omega)]
    first | done | (congr 1 <;> omega)
  · rw [if_neg h1]
    by_cases h2 : m ≤ k ∧ k < m + i
    · rw [if_pos h2, if_neg (by omega), if_pos (by omega)]
      first | done | (congr 1 <;> omega)
    · rw [if_neg h2, if_neg (by omega), if_neg (by omega)]

/-- A number's rank: by its key, then by itself. -/
def rk (key : Nat → Nat) (x : Nat) : Nat := key x * 1048576 + x

/-- From a to b the ranks go up. -/
def Srt (key f : Nat → Nat) (a b : Nat) : Prop := ∀ i j, a ≤ i → i < j → j < b → rk key (f i) < rk key (f j)

/-- What stands between a and b is what stood there, and nothing else has turned. -/
structure Same (f g : Nat → Nat) (a b : Nat) : Prop where
  out : ∀ k, k < a ∨ b ≤ k → g k = f k
  back : ∀ k, a ≤ k → k < b → ∃ k', a ≤ k' ∧ k' < b ∧ g k = f k'
  forth : ∀ k, a ≤ k → k < b → ∃ k', a ≤ k' ∧ k' < b ∧ f k = g k'

theorem Same.refl (f : Nat → Nat) (a b : Nat) : Same f f a b := ⟨fun _ _ => rfl, fun k h1 h2 => ⟨k, h1, h2, rfl⟩, fun k h1 h2 => ⟨k, h1, h2, rfl⟩⟩

theorem Same.trans {f g h : Nat → Nat} {a b : Nat} (p : Same f g a b) (q : Same g h a b) : Same f h a b where
  out := fun k hk => (q.out k hk).trans (p.out k hk)
  back := fun k h1 h2 => by
    obtain ⟨k1, a1, b1, e1⟩ := q.back k h1 h2
    obtain ⟨k2, a2, b2, e2⟩ := p.back k1 a1 b1
    exact ⟨k2, a2, b2, e1.trans e2⟩
  forth := fun k h1 h2 => by
    obtain ⟨k1, a1, b1, e1⟩ := p.forth k h1 h2
    obtain ⟨k2, a2, b2, e2⟩ := q.forth k1 a1 b1
    exact ⟨k2, a2, b2, e1.trans e2⟩

theorem Same.wide {f g : Nat → Nat} {a b c d : Nat} (p : Same f g a b) (hc : c ≤ a) (hd : b ≤ d) : Same f g c d where
  out := fun k hk => p.out k (by omega)
  back := fun k h1 h2 => by
    by_cases hk : a ≤ k ∧ k < b
    · obtain ⟨k1, a1, b1, e1⟩ := p.back k hk.1 hk.2
      exact ⟨k1, by omega, by omega, e1⟩
    · exact ⟨k, h1, h2, p.out k (by omega)⟩
  forth := fun k h1 h2 => by
    by_cases hk : a ≤ k ∧ k < b
    · obtain ⟨k1, a1, b1, e1⟩ := p.forth k hk.1 hk.2
      exact ⟨k1, by omega, by omega, e1⟩
    · exact ⟨k, h1, h2, (p.out k (by omega)).symm⟩

theorem same_rot (f : Nat → Nat) (a m b : Nat) (h1 : a ≤ m) (h2 : m ≤ b) : Same f (rot f a m b) a b where
  out := fun k hk => by unfold rot; rw [if_neg (by omega), if_neg (by omega)]
  back := fun k hk1 hk2 => by
    unfold rot
    by_cases h : a ≤ k ∧ k < a + (b - m)
    · rw [if_pos h]; exact ⟨_, by omega, by omega, rfl⟩
    · rw [if_neg h, if_pos (by omega)]; exact ⟨_, by omega, by omega, rfl⟩
  forth := fun k hk1 hk2 => by
    by_cases h : k < m
    · refine ⟨k + (b - m), by omega, by omega, ?_⟩
      unfold rot
      rw [if_neg (by omega), if_pos (by omega)]
      first | done | (congr 1 <;> omega)
    · refine ⟨k - (m - a), by omega, by omega, ?_⟩
      unfold rot
      rw [if_pos (by omega)]
      first | done | (congr 1 <;> omega)

/-- One of the left goes behind the next ones: exchanged step by step. -/
def mvR (f : Nat → Nat) (a i : Nat) : Nat → Nat := rot f a (a + 1) (i + 1)
/-- One goes ahead of those before it. -/
def mvL (f : Nat → Nat) (j i : Nat) : Nat → Nat := rot f j i (i + 1)

theorem mvR_zero (f : Nat → Nat) (a : Nat) : mvR f a a = f := by
  funext k
  unfold mvR rot
  rw [if_neg (by omega)]
  by_cases h : a + (a + 1 - (a + 1)) ≤ k ∧ k < a + 1
  · rw [if_pos h]; first | done | (congr 1 <;> omega)
  · rw [if_neg h]

theorem mvR_succ (f : Nat → Nat) (a k : Nat) (h : a ≤ k) : swp2 (mvR f a k) k (k + 1) = mvR f a (k + 1) := by
  funext q
  unfold swp2 mvR rot
  by_cases h1 : q = k
  · subst h1
    rw [if_pos rfl, if_neg (by omega), if_neg (by omega), if_pos (by omega)]
    first | done | (congr 1 <;> omega)
  · rw [if_neg h1]
    by_cases h2 : q = k + 1
    · subst h2
      rw [if_pos rfl, if_neg (by omega), if_pos (by omega), if_neg (by omega), if_pos (by omega)]
      first | done | (congr 1 <;> omega)
    · rw [if_neg h2]
      by_cases h3 : a ≤ q ∧ q < k
      · rw [if_pos (by omega), if_pos (by omega)]
      · rw [if_neg (by omega), if_neg (by omega), if_neg (by omega), if_neg (by omega)]

theorem mvL_zero (f : Nat → Nat) (i : Nat) : mvL f i i = f := by
  funext k
  unfold mvL rot
  by_cases h : i ≤ k ∧ k < i + (i + 1 - i)
  · rw [if_pos h]; first | done | (congr 1 <;> omega)
  · rw [if_neg h, if_neg (by omega)]

theorem mvL_succ (f : Nat → Nat) (j i : Nat) (h : j + 1 ≤ i) : swp2 (mvL f (j + 1) i) (j + 1) j = mvL f j i := by
  funext q
  unfold swp2 mvL rot
  by_cases h1 : q = j + 1
  · subst h1
    rw [if_pos rfl, if_neg (by omega), if_neg (by omega), if_neg (by omega), if_pos (by omega)]
    first | done | (congr 1 <;> omega)
  · rw [if_neg h1]
    by_cases h2 : q = j
    · subst h2
      rw [if_pos rfl, if_pos (by omega), if_pos (by omega)]
      first | done | (congr 1 <;> omega)
    · rw [if_neg h2]
      by_cases h3 : j + 1 < q ∧ q < i + 1
      · rw [if_neg (by omega), if_pos (by omega), if_neg (by omega), if_pos (by omega)]
        first | done | (congr 1 <;> omega)
      · rw [if_neg (by omega), if_neg (by omega), if_neg (by omega), if_neg (by omega)]
end Go.Proofs.YtdplflcaanmmiaaGreat

namespace Go.Proofs.YtdplflcaanmmiaaGreat
open Go.ChangeShapes Go.WideShapes Go.ChangeAt Go.RowKit

/-- The row at block g holds the numbers f; nothing else of what lay in w0 has turned. -/
structure RowAt (w0 : World) (g n : Nat) (f : Nat → Nat) (W : World) : Prop where
  row : W.rowIs g 3 n (fun i => .int .i64 (f i : Int))
  kept : Kept (· = g) w0 W

theorem RowAt.drewN {w0 W : World} {g n : Nat} {f : Nat → Nat} (h : RowAt w0 g n f W) (q : Nat) : RowAt w0 g n f (W.drewN q) := by
  refine ⟨?_, h.kept.trans (Kept.drewN _ W q)⟩
  have hr := h.row
  clear h
  induction q generalizing W with
  | zero => exact hr
  | succ q ih => exact ih (W := W.drew) hr

theorem RowAt.swap {w0 W : World} {g n : Nat} {f : Nat → Nat} (h : RowAt w0 g n f W) (i j : Nat) (hij : i ≠ j) : RowAt w0 g n (swp2 f i j) ((W.setCell ⟨g, i, none⟩ (.int .i64 (f j : Int))).setCell ⟨g, j, none⟩ (.int .i64 (f i : Int))).drew := by
  refine ⟨((((h.row.set i (.int .i64 (f j : Int))).set j (.int .i64 (f i : Int))).drew).congr (fun k _ => ?_)), ((h.kept.setCell g i _ rfl).setCell g j _ rfl).trans (Kept.drewN _ _ 1)⟩
  unfold swp2
  by_cases h1 : k = j
  · subst h1
    rw [if_pos rfl, if_neg (by omega), if_pos rfl]
  · rw [if_neg h1]
    by_cases h2 : k = i
    · rw [if_pos h2, if_pos h2]
    · rw [if_neg h2, if_neg h2, if_neg h1]

set_option maxRecDepth 20000 in
set_option maxHeartbeats 2000000 in
theorem swapRange_any {w0 W : World} {g n : Nat} {f : Nat → Nat} (h : RowAt w0 g n f W) (a b c : Nat) (hab : a + c ≤ b) (hb : b + c ≤ n) (hn : n ≤ 1000000) (cv : Value) :
    Calls Tryz.prog 140 #[.slice (some ⟨g, 0, none⟩) n n, .int .i64 (a : Int), .int .i64 (b : Int), .int .i64 (c : Int), cv] W fun e w' => e = .returned (.tuple #[]) ∧ RowAt w0 g n (swr f a b c) w' := by
  have mixed : Tryz.prog.follows .mixedOrders = true := by kernel_rfl
  have H := hid h
  clear h
  go_enter Tryz.func140, Tryz.ntmps140
  go_wp2
  go_loopw [10] (fun vi wr => ∃ i : Nat, vi = .int .i64 i ∧ i ≤ c ∧ Hid (RowAt w0 g n (swr f a b i) wr)) (fun vi _ => c - (intOf vi).toNat)
  case atStart => exact ⟨0, rfl, by omega, by rw [swr_zero]; exact H.out⟩
  case round =>
    obtain ⟨i, rfl, hi, hR⟩ := hrel
    by_cases hlt : i < c
    · obtain ⟨p, hp⟩ : ∃ p, p = a + i := ⟨_, rfl⟩
      obtain ⟨q, hq⟩ : ∃ q, q = b + i := ⟨_, rfl⟩
      have e1 : (a : Int) + (i : Int) = (p : Int) := by omega
      have e2 : (b : Int) + (i : Int) = (q : Int) := by omega
      have hpn : p < n := by omega
      have hqn : q < n := by omega
      have hpq : p ≠ q := by omega
      have c1 := hR.out.row.cell hpn
      have c2 := hR.out.row.cell hqn
      have f1 := hR.out.row.frozen p
      have f2 := hR.out.row.frozen q
      have c3 : (wr.setCell ⟨g, p, none⟩ (.int .i64 (swr f a b i q : Int))).cell? ⟨g, q, none⟩ = some (.int .i64 (swr f a b i q : Int)) := by
        have h3 := (hR.out.row.set p (.int .i64 (swr f a b i q : Int))).cell hqn
        simpa [Ne.symm hpq] using h3
      have HS := hid (hR.out.swap p q hpq)
      have hsw : swp2 (swr f a b i) p q = swr f a b (i + 1) := by rw [hp, hq]; exact swr_succ f a b i (by omega)
      rw [hsw] at HS
      have hx1 : decide ((0 : Int) ≤ (p : Int) ∧ (p : Int) < (n : Int)) = true := decide_eq_true ⟨by omega, by omega⟩
      have hx2 : decide ((0 : Int) ≤ (q : Int) ∧ (q : Int) < (n : Int)) = true := decide_eq_true ⟨by omega, by omega⟩
      have HP := hid hp
      have HQ := hid hq
      clear hp hq hsw
      generalize (swr f a b i p : Nat) = x at c1 c3 HS
      generalize (swr f a b i q : Nat) = y at c2 c3 HS
      go_wp2_with fail
      go_big_region_o
      clear c1 c2 c3 f1 f2 hx1 hx2
      generalize ((wr.setCell ⟨g, p, none⟩ (.int .i64 (y : Int))).setCell ⟨g, q, none⟩ (.int .i64 (x : Int))).drew = w3 at HS ⊢
      go_wp2
      go_roundw
      case rel => exact ⟨i + 1, by go_num, by omega, HS.out⟩
      case measure => simp [intOf]; omega
    · obtain rfl : i = c := by omega
      go_wp2
      exact bodyPost_end (v := .tuple #[]) (by simp [results, Tryz.results140, go_sem]) rfl ⟨rfl, hR.out⟩

set_option maxRecDepth 20000 in
set_option maxHeartbeats 2000000 in
theorem rotate_any {w0 W : World} {g n : Nat} {f : Nat → Nat} (h : RowAt w0 g n f W) (a m b : Nat) (ham : a < m) (hmb : m < b) (hb : b ≤ n) (hn : n ≤ 1000000) (cv : Value) :
    Calls Tryz.prog 136 #[.slice (some ⟨g, 0, none⟩) n n, .int .i64 (a : Int), .int .i64 (m : Int), .int .i64 (b : Int), cv] W fun e w' => e = .returned (.tuple #[]) ∧ RowAt w0 g n (rot f a m b) w' := by
  have H := hid h
  clear h
  obtain ⟨i0, hi0⟩ : ∃ i, i = m - a := ⟨_, rfl⟩
  obtain ⟨j0, hj0⟩ : ∃ j, j = b - m := ⟨_, rfl⟩
  have e1 : (m : Int) - (a : Int) = (i0 : Int) := by omega
  have e2 : (b : Int) - (m : Int) = (j0 : Int) := by omega
  have HR0 : Hid (rot f (m - i0) m (m + j0) = rot f a m b) := by
    show _ = _
    rw [show m - i0 = a by omega, show m + j0 = b by omega]
  have hi1 : 0 < i0 := by omega
  have hj1 : 0 < j0 := by omega
  have hi2 : i0 ≤ m := by omega
  have hj2 : m + j0 ≤ n := by omega
  clear hi0 hj0
  go_enter Tryz.func136, Tryz.ntmps136
  go_wp2
  go_loopw [10, 11] (fun vi vj wr => ∃ i j : Nat, ∃ f' : Nat → Nat, vi = .int .i64 i ∧ vj = .int .i64 j ∧ 0 < i ∧ 0 < j ∧ i ≤ m ∧ m + j ≤ n ∧ Hid (RowAt w0 g n f' wr) ∧ Hid (rot f' (m - i) m (m + j) = rot f a m b)) (fun vi vj _ => (intOf vi).toNat + (intOf vj).toNat)
  case atStart => exact ⟨i0, j0, f, rfl, rfl, hi1, hj1, hi2, hj2, H.out, HR0.out⟩
  case round =>
    obtain ⟨i, j, f', rfl, rfl, hi, hj, him, hjn, hR, hE⟩ := hrel
    obtain ⟨p, hp⟩ : ∃ p, p = m - i := ⟨_, rfl⟩
    have e3 : (m : Int) - (i : Int) = (p : Int) := by omega
    rcases Nat.lt_trichotomy i j with hlt | heq | hgt
    · obtain ⟨q, hq⟩ : ∃ q, q = m + j - i := ⟨_, rfl⟩
      obtain ⟨d, hd⟩ : ∃ d, d = j - i := ⟨_, rfl⟩
      have e4 : (m : Int) + (j : Int) - (i : Int) = (q : Int) := by omega
      have e5 : (j : Int) - (i : Int) = (d : Int) := by omega
      have hne : ¬ ((i : Int) = (j : Int)) := by omega
      have hne2 : ¬ (i = j) := by omega
      have hng : ¬ (j < i) := by omega
      have hpq : p + i ≤ q := by omega
      have hqn : q + i ≤ n := by omega
      have hE2 : rot (swr f' p q i) (m - i) m (m + d) = rot f a m b := by rw [hp, hq, hd, rot_right f' m i j him hlt]; exact hE.out
      have HE2 := hid hE2
      have hd0 : 0 < d := by omega
      have hdn : m + d ≤ n := by omega
      have hdj : d < j := by omega
      clear hE2 hE hp hq hd
      go_wp2_with (go_at_call 140; refine (swapRange_any hR.out p q i hpq hqn hn cv).mono ?_; rintro e w5 ⟨rfl, hR5⟩; have HR5 := hid hR5; clear hR5)
      go_roundw
      case rel => exact ⟨i, d, swr f' p q i, by go_num, by go_num, hi, hd0, him, hdn, HR5.out, HE2.out⟩
      case measure => simp [intOf]; omega
    · subst heq
      have hE2 : swr f' p m i = rot f a m b := by rw [hp, rot_even f' m i him]; exact hE.out
      have HE2 := hid hE2
      have hpq : p + i ≤ m := by omega
      clear hE2 hE hp
      go_wp2_with (go_at_call 140; refine (swapRange_any hR.out p m i hpq hjn hn cv).mono ?_; rintro e w5 ⟨rfl, hR5⟩; have HR5 := hid hR5; clear hR5)
      exact bodyPost_end (v := .tuple #[]) (by simp [results, Tryz.results136, go_sem]) rfl ⟨rfl, by rw [← HE2.out]; exact HR5.out⟩
    · obtain ⟨d, hd⟩ : ∃ d, d = i - j := ⟨_, rfl⟩
      have e5 : (i : Int) - (j : Int) = (d : Int) := by omega
      have hne : ¬ ((i : Int) = (j : Int)) := by omega
      have hne2 : ¬ (i = j) := by omega
      have hpq : p + j ≤ m := by omega
      have hE2 : rot (swr f' p m j) (m - d) m (m + j) = rot f a m b := by rw [hp, hd, rot_left f' m i j him hgt]; exact hE.out
      have HE2 := hid hE2
      have hd0 : 0 < d := by omega
      have hdn : d ≤ m := by omega
      have hdj : d < i := by omega
      clear hE2 hE hp hd
      go_wp2_with (go_at_call 140; refine (swapRange_any hR.out p m j hpq hjn hn cv).mono ?_; rintro e w5 ⟨rfl, hR5⟩; have HR5 := hid hR5; clear hR5)
      go_roundw
      case rel => exact ⟨d, j, swr f' p m j, by go_num, by go_num, hd0, hj, hdn, hjn, HR5.out, HE2.out⟩
      case measure => simp [intOf]; omega
end Go.Proofs.YtdplflcaanmmiaaGreat

namespace Go.Proofs.YtdplflcaanmmiaaGreat
open Go.ChangeShapes Go.WideShapes Go.ChangeAt Go.RowKit

/-- What cmp.Compare answers of two keys. -/
def c3 (a b : Nat) : Int := if a < b then -1 else if b < a then 1 else 0

theorem c3_lt {a b : Nat} (h : a < b) : c3 a b = -1 := by unfold c3; rw [if_pos h]
theorem c3_ge {a b : Nat} (h : b ≤ a) : ¬ c3 a b < 0 := by unfold c3; rw [if_neg (by omega)]; split <;> decide

/-- The function that compares: by the keys of numbers below n, whatever stands in the row. -/
def CmpAt (w0 : World) (g n bx : Nat) (key : Nat → Nat) : Prop :=
  ∀ W, Kept (· = g) w0 W → ∀ x y : Nat, x < n → y < n → Calls Tryz.prog 104 #[.int .i64 (x : Int), .int .i64 (y : Int), .pointer (some ⟨bx, 0, none⟩)] W fun e w' => e = .returned (.int .i64 (c3 (key x) (key y))) ∧ ∃ q, w' = W.drewN q

/-- The value that is handed on. -/
abbrev cmpV (bx : Nat) : Value := .func (.func 104) #[] #[.pointer (some ⟨bx, 0, none⟩)]

/-- Moved to the left, one stands where it belongs. -/
theorem srt_mvL {key f : Nat → Nat} {a j i : Nat} (hs : Srt key f a i) (haj : a ≤ j) (hji : j ≤ i) (h1 : ∀ k, a ≤ k → k < j → rk key (f k) < rk key (f i)) (h2 : ∀ k, j ≤ k → k < i → rk key (f i) < rk key (f k)) : Srt key (mvL f j i) a (i + 1) := by
  intro p q hp hpq hq
  have hL : ∀ k, a ≤ k → k ≤ i → (k < j ∧ mvL f j i k = f k) ∨ (k = j ∧ mvL f j i k = f i) ∨ (j < k ∧ mvL f j i k = f (k - 1)) := by
    intro k _ hk
    unfold mvL rot
    rcases Nat.lt_trichotomy k j with h | h | h
    · exact .inl ⟨h, by rw [if_neg (by omega), if_neg (by omega)]⟩
    · refine .inr (.inl ⟨h, ?_⟩)
      rw [if_pos (by omega)]
      congr 1; omega
    · refine .inr (.inr ⟨h, ?_⟩)
      rw [if_neg (by omega), if_pos (by omega)]
      congr 1; omega
  rcases hL p hp (by omega) with ⟨hp1, ep⟩ | ⟨hp1, ep⟩ | ⟨hp1, ep⟩ <;> rcases hL q (by omega) (by omega) with ⟨hq1, eq⟩ | ⟨hq1, eq⟩ | ⟨hq1, eq⟩ <;> rw [ep, eq]
  · exact hs p q hp hpq (by omega)
  · exact h1 p hp hp1
  · rcases Nat.lt_or_ge p (q - 1) with h | h
    · exact hs p (q - 1) hp h (by omega)
    · omega
  · omega
  · omega
  · exact h2 (q - 1) (by omega) (by omega)
  · omega
  · omega
  · exact hs (p - 1) (q - 1) (by omega) (by omega) (by omega)

theorem same_mvL (f : Nat → Nat) (j i : Nat) (h : j ≤ i) : Same f (mvL f j i) j (i + 1) := same_rot f j i (i + 1) h (by omega)

set_option maxRecDepth 20000 in
set_option maxHeartbeats 4000000 in
/-- A block whose numbers are their own places is sorted. -/
theorem insertion_any {w0 W : World} {g n bx : Nat} {f key : Nat → Nat} (h : RowAt w0 g n f W) (hc : CmpAt w0 g n bx key) (a b : Nat) (hab : a ≤ b) (hb : b ≤ n) (hn : n ≤ 1000000) (hid0 : ∀ k, a ≤ k → k < b → f k = k) :
    Calls Tryz.prog 128 #[.slice (some ⟨g, 0, none⟩) n n, .int .i64 (a : Int), .int .i64 (b : Int), cmpV bx] W fun e w' => e = .returned (.tuple #[]) ∧ ∃ f', RowAt w0 g n f' w' ∧ Srt key f' a b ∧ Same f f' a b := by
  have mixed : Tryz.prog.follows .mixedOrders = true := by kernel_rfl
  have H := hid h
  have HC := hid hc
  have HI := hid hid0
  clear h hc hid0
  unfold cmpV
  go_enter Tryz.func128, Tryz.ntmps128
  go_wp2
  go_loopg [8] (b + 1) (fun g1 vi wr => ∃ (i : Nat) (f' : Nat → Nat), vi = .int .i64 i ∧ a < i ∧ i ≤ b + 1 ∧ b + 1 - i ≤ g1 ∧ Hid (RowAt w0 g n f' wr) ∧ Hid (Srt key f' a (min i b)) ∧ Hid (Same f f' a b) ∧ Hid (∀ k, a ≤ k → k < b → (i ≤ k → f' k = k) ∧ (k < i → f' k < i)))
  case atStart => exact ⟨a + 1, f, by go_num, by omega, by omega, by omega, H.out, (fun p q h1 h2 h3 => by omega), Same.refl _ _ _, (fun k h1 h2 => ⟨fun _ => HI.out k h1 h2, fun h3 => by rw [HI.out k h1 h2]; exact h3⟩)⟩
  case round =>
    obtain ⟨i, f1, rfl, hai, hib, hg1, hR, hS, hM, hV⟩ := hrel
    by_cases hlt : i < b
    · -- behind the inner loop
      have HOUT : Hid (∀ j, a ≤ j → j ≤ i → (∀ k, j ≤ k → k < i → rk key (f1 i) < rk key (f1 k)) → (j = a ∨ (a < j ∧ rk key (f1 (j - 1)) < rk key (f1 i))) → Srt key (mvL f1 j i) a (min (i + 1) b) ∧ Same f (mvL f1 j i) a b ∧ (∀ k, a ≤ k → k < b → (i + 1 ≤ k → mvL f1 j i k = k) ∧ (k < i + 1 → mvL f1 j i k < i + 1))) := by
        intro j haj hji h2 h1
        have hsi : Srt key f1 a i := by have := hS.out; rwa [Nat.min_eq_left (by omega)] at this
        refine ⟨?_, hM.out.trans ((same_mvL f1 j i hji).wide haj (by omega)), ?_⟩
        · rw [Nat.min_eq_left (by omega)]
          refine srt_mvL hsi haj hji (fun k hk1 hk2 => ?_) h2
          rcases h1 with rfl | ⟨h1, h3⟩
          · omega
          · rcases Nat.lt_or_ge k (j - 1) with h4 | h4
            · exact Nat.lt_trans (hsi k (j - 1) hk1 h4 (by omega)) h3
            · rw [show k = j - 1 by omega]; exact h3
        · intro k hk1 hk2
          have hsm := same_mvL f1 j i hji
          refine ⟨fun h3 => ?_, fun h3 => ?_⟩
          · rw [hsm.out k (by omega)]
            exact (hV.out k hk1 hk2).1 (by omega)
          · by_cases h4 : j ≤ k
            · obtain ⟨k', a1, b1, e1⟩ := hsm.back k h4 h3
              rw [e1]
              have h5 := hV.out k' (by omega) (by omega)
              rcases Nat.lt_or_ge k' i with h6 | h6
              · have := h5.2 h6; omega
              · rw [h5.1 h6]; omega
            · rw [hsm.out k (by omega)]
              have := (hV.out k hk1 hk2).2 (by omega)
              omega
      have HVI : Hid (f1 i = i ∧ ∀ k, a ≤ k → k < i → f1 k < i) := ⟨(hV.out i (by omega) hlt).1 (Nat.le_refl _), fun k h1 h2 => (hV.out k h1 (by omega)).2 h2⟩
      clear hS hM hV
      go_wp2
      go_loopg [9] i (fun g2 vj wr2 => ∃ j : Nat, vj = .int .i64 j ∧ a ≤ j ∧ j ≤ i ∧ j ≤ g2 ∧ Hid (RowAt w0 g n (mvL f1 j i) wr2) ∧ Hid (∀ k, j ≤ k → k < i → rk key (f1 i) < rk key (f1 k)))
      case atStart => exact ⟨i, rfl, by omega, by omega, by omega, by rw [mvL_zero]; exact hR.out, (fun k h1 h2 => by omega)⟩
      case round =>
        clear hR
        obtain ⟨j, rfl, haj, hji, hg2, hR, hB⟩ := hrel
        by_cases hja : a < j
        · obtain ⟨q, rfl⟩ : ∃ q, j = q + 1 := ⟨j - 1, by omega⟩
          obtain ⟨y, hy⟩ : ∃ y, y = f1 i := ⟨_, rfl⟩
          obtain ⟨x, hx⟩ : ∃ x, x = f1 q := ⟨_, rfl⟩
          have ey : mvL f1 (q + 1) i (q + 1) = y := by
            unfold mvL rot
            rw [if_pos (by omega), hy]
            congr 1; omega
          have ex : mvL f1 (q + 1) i q = x := by
            unfold mvL rot
            rw [if_neg (by omega), if_neg (by omega), hx]
          have hqn : q < n := by omega
          obtain ⟨p, hp⟩ : ∃ p, p = q + 1 := ⟨_, rfl⟩
          have hpn : p < n := by omega
          have ez : ((q + 1 : Nat) : Int) = (p : Int) := by omega
          have em : (p : Int) - 1 = (q : Int) := by omega
          have hapn : (a : Int) < (p : Int) := by omega
          have hap : decide ((p : Int) > (a : Int)) = true := decide_eq_true (by omega)
          have hap2 : decide (a < p) = true := decide_eq_true (by omega)
          have c1 := hR.out.row.cell hpn
          have c2 := hR.out.row.cell hqn
          have f1' := hR.out.row.frozen p
          have f2' := hR.out.row.frozen q
          have EY : Hid (mvL f1 p i p = y) := by show _ = _; rw [hp]; exact ey
          have EX : Hid (mvL f1 p i q = x) := by show _ = _; rw [hp]; exact ex
          rw [hp, ey, ← hp] at c1
          rw [ex] at c2
          have hyi : y = i := hy.trans HVI.out.1
          have hxi : x < i := by rw [hx]; exact HVI.out.2 q (by omega) (by omega)
          have hyn : y < n := by omega
          have hxn : x < n := by omega
          have hx1 : decide ((0 : Int) ≤ (p : Int) ∧ (p : Int) < (n : Int)) = true := decide_eq_true ⟨by omega, by omega⟩
          have hx2 : decide ((0 : Int) ≤ (q : Int) ∧ (q : Int) < (n : Int)) = true := decide_eq_true ⟨by omega, by omega⟩
          have hwp : IntKind.i64.wrap (p : Int) = (p : Int) := by rw [IntKind.wrap_i64]; omega
          have hwq : IntKind.i64.wrap (q : Int) = (q : Int) := by rw [IntKind.wrap_i64]; omega
          have hpi : p ≤ i := by omega
          have hpg : p ≤ gk := by omega
          have hap3 : a < p := by omega
          have hpq : p ≠ q := by omega
          have HY := hid hy
          have HX := hid hx
          have HP := hid hp
          have HYI := hid hyi
          have hqi : q < i := by omega
          have haq : a ≤ q := by omega
          have hqp : q < p := by omega
          have HR3 := hR.out
          rw [← hp] at HR3
          have HR4 := hid HR3
          rw [ez]
          clear hy hx ey ex ez hji hja haj hg2 hyi hp HR3 hR
          by_cases hk : key y < key x
          · have hcv := c3_lt hk
            have hcd : decide (c3 (key y) (key x) < 0) = true := decide_eq_true (by rw [hcv]; decide)
            have HB2 : Hid (∀ k, q ≤ k → k < i → rk key (f1 i) < rk key (f1 k)) := fun k h1 h2 => by
              rcases Nat.lt_or_ge q k with h3 | h3
              · exact hB.out k h3 h2
              · have e1 : k = q := by omega
                rw [e1, ← HY.out, ← HX.out]
                unfold rk
                omega
            clear hcv hk
            go_wp2_with fail
            go_quiet ((go_at_call 104; exact Calls.quiet_of (HC.out _ (HR4.out.kept.trans (Kept.drewN _ _ _)) y x hyn hxn)))
            have HR5 := hid (HR4.out.drewN nq)
            clear c1 c2 f1' f2' HR4
            generalize wr.drewN nq = w2 at HR5 ⊢
            have c1 := HR5.out.row.cell hpn
            have c2 := HR5.out.row.cell hqn
            have f1' := HR5.out.row.frozen p
            have f2' := HR5.out.row.frozen q
            have c3' : (w2.setCell ⟨g, p, none⟩ (.int .i64 (mvL f1 p i q : Int))).cell? ⟨g, q, none⟩ = some (.int .i64 (mvL f1 p i q : Int)) := by
              have h3 := (HR5.out.row.set p (.int .i64 (mvL f1 p i q : Int))).cell hqn
              simpa [Ne.symm hpq] using h3
            have HS := hid (HR5.out.swap p q hpq)
            have hsw : swp2 (mvL f1 p i) p q = mvL f1 q i := by rw [HP.out]; exact mvL_succ f1 q i (by omega)
            rw [hsw, EX.out, EY.out] at HS
            rw [EY.out] at c1
            rw [EX.out] at c2 c3'
            clear hsw HR5 EX EY
            go_wp2_with fail
            go_big_region_o
            clear c1 c2 c3' f1' f2' hx1 hx2 hwp hwq
            generalize ((w2.setCell ⟨g, p, none⟩ (.int .i64 (x : Int))).setCell ⟨g, q, none⟩ (.int .i64 (y : Int))).drew = w3 at HS ⊢
            go_wp2
            go_roundg q
            case measure => omega
            case rel => exact ⟨q, by first | rfl | go_num, haq, by omega, Nat.le_refl _, HS.out, HB2.out⟩
          · have hcv := c3_ge (Nat.le_of_not_lt hk)
            have hcd : decide (c3 (key y) (key x) < 0) = false := decide_eq_false hcv
            have HO := HOUT.out p (by omega) hpi (by rw [HP.out]; exact hB.out) (.inr ⟨hap3, by
              rw [show p - 1 = q by omega, ← HX.out, ← HY.out]
              have h4 := HYI.out
              unfold rk
              omega⟩)
            obtain ⟨ho1, ho2, ho3⟩ := HO
            have HO1 := hid ho1
            have HO2 := hid ho2
            have HO3 := hid ho3
            clear hcv hk ho1 ho2 ho3 HOUT
            go_wp2_with fail
            go_quiet ((go_at_call 104; exact Calls.quiet_of (HC.out _ (HR4.out.kept.trans (Kept.drewN _ _ _)) y x hyn hxn)))
            have HR5 := hid (HR4.out.drewN nq)
            clear c1 c2 f1' f2' HR4
            generalize wr.drewN nq = w2 at HR5 ⊢
            go_wp2
            go_roundg (b - i)
            case measure => omega
            case rel => exact ⟨i + 1, mvL f1 p i, by go_num, by omega, by omega, by omega, HR5.out, HO1.out, HO2.out, HO3.out⟩
        · obtain rfl : j = a := by omega
          obtain ⟨ho1, ho2, ho3⟩ := HOUT.out j (Nat.le_refl _) (by omega) hB.out (.inl rfl)
          have HO1 := hid ho1
          have HO2 := hid ho2
          have HO3 := hid ho3
          clear ho1 ho2 ho3 HOUT
          have hja2 : ¬ ((j : Int) < (j : Int)) := by omega
          go_wp2_with fail
          go_quiet (fail)
          have HR5 := hid (hR.out.drewN nq)
          clear hR
          generalize wr.drewN nq = w2 at HR5 ⊢
          go_wp2
          go_roundg (b - i)
          case measure => omega
          case rel => exact ⟨i + 1, mvL f1 j i, by go_num, by omega, by omega, by omega, HR5.out, HO1.out, HO2.out, HO3.out⟩
    · have hmin : min i b = b := by omega
      have hS2 := hS.out
      rw [hmin] at hS2
      have HS2 := hid hS2
      clear hS2 hmin
      go_wp2
      exact bodyPost_end (v := .tuple #[]) (by simp [results, Tryz.results128, go_sem]) rfl ⟨rfl, f1, hR.out, HS2.out, hM.out⟩
end Go.Proofs.YtdplflcaanmmiaaGreat

namespace Go.Proofs.YtdplflcaanmmiaaGreat

/-- Of two blocks that stand side by side: numbers of one key stand in their own order. -/
def Cross (key f : Nat → Nat) (a m b : Nat) : Prop := ∀ i j, a ≤ i → i < m → m ≤ j → j < b → key (f i) = key (f j) → f i < f j

/-- All numbers of the row are small. -/
def Small (f : Nat → Nat) (n : Nat) : Prop := ∀ k, k < n → f k < n

theorem rk_lt {key : Nat → Nat} {x y : Nat} (hx : x < 1048576) (h : key x < key y) : rk key x < rk key y := by unfold rk; omega
theorem rk_le {key : Nat → Nat} {x y : Nat} (hx : x < 1048576) (h : ¬ key y < key x) (h2 : key x = key y → x < y) : rk key x < rk key y := by
  unfold rk
  rcases Nat.lt_or_ge (key x) (key y) with h1 | h1
  · omega
  · have h3 : key x = key y := by omega
    have := h2 h3
    omega

theorem Small.same {f g : Nat → Nat} {a b n : Nat} (h : Small f n) (hs : Same f g a b) (hb : b ≤ n) : Small g n := fun k hk => by
  by_cases h1 : a ≤ k ∧ k < b
  · obtain ⟨k', h2, h3, e⟩ := hs.back k h1.1 h1.2
    rw [e]; exact h k' (by omega)
  · rw [hs.out k (by omega)]; exact h k hk

theorem Srt.part {key f : Nat → Nat} {a b c d : Nat} (h : Srt key f a b) (hc : a ≤ c) (hd : d ≤ b) : Srt key f c d := fun i j h1 h2 h3 => h i j (by omega) h2 (by omega)

theorem Srt.congr {key f g : Nat → Nat} {a b : Nat} (h : Srt key f a b) (he : ∀ k, a ≤ k → k < b → g k = f k) : Srt key g a b := fun i j h1 h2 h3 => by
  rw [he i h1 (by omega), he j (by omega) h3]
  exact h i j h1 h2 h3

/-- One that is moved to the right stands where it belongs. -/
theorem srt_mvR {key f : Nat → Nat} {a i b : Nat} (hs : Srt key f (a + 1) b) (hai : a ≤ i) (hib : i < b) (h1 : ∀ k, a < k → k ≤ i → rk key (f k) < rk key (f a)) (h2 : ∀ k, i < k → k < b → rk key (f a) < rk key (f k)) : Srt key (mvR f a i) a b := by
  intro p q hp hpq hq
  have hL : ∀ k, a ≤ k → k < b → (k < i ∧ mvR f a i k = f (k + 1)) ∨ (k = i ∧ mvR f a i k = f a) ∨ (i < k ∧ mvR f a i k = f k) := by
    intro k h1 hk
    unfold mvR rot
    rcases Nat.lt_trichotomy k i with h | h | h
    · refine .inl ⟨h, ?_⟩
      rw [if_pos (by omega)]
      congr 1; omega
    · refine .inr (.inl ⟨h, ?_⟩)
      rw [if_neg (by omega), if_pos (by omega)]
      congr 1; omega
    · exact .inr (.inr ⟨h, by rw [if_neg (by omega), if_neg (by omega)]⟩)
  rcases hL p hp (by omega) with ⟨hp1, ep⟩ | ⟨hp1, ep⟩ | ⟨hp1, ep⟩ <;> rcases hL q (by omega) (by omega) with ⟨hq1, eq⟩ | ⟨hq1, eq⟩ | ⟨hq1, eq⟩ <;> rw [ep, eq]
  · exact hs (p + 1) (q + 1) (by omega) (by omega) (by omega)
  · exact h1 (p + 1) (by omega) (by omega)
  · exact hs (p + 1) q (by omega) (by omega) (by omega)
  · omega
  · omega
  · exact h2 q hq1 hq
  · omega
  · omega
  · exact hs p q (by omega) hpq hq

theorem same_mvR (f : Nat → Nat) (a i : Nat) (h : a ≤ i) : Same f (mvR f a i) a (i + 1) := same_rot f a (a + 1) (i + 1) (by omega) (by omega)

/-- Two blocks that are cut at start and end, and turned: what is left to do on both sides. -/
structure Cut (key f : Nat → Nat) (a m b mid start fin : Nat) : Prop where
  len : start + fin = mid + m
  lo : a ≤ start
  sm : start ≤ m
  me : m ≤ fin
  hi : fin ≤ b
  smid : start ≤ mid
  amid : a ≤ mid
  midb : mid ≤ b
  left : ∀ i j, a ≤ i → i < start → fin ≤ j → j < b → rk key (f i) < rk key (f j)
  right : ∀ i j, start ≤ i → i < m → m ≤ j → j < fin → rk key (f j) < rk key (f i)

/-- Behind the turning: which ones stand left of the middle. -/
theorem rot_at (f : Nat → Nat) {s m e : Nat} (hs : s ≤ m) (he : m ≤ e) (mid : Nat) (hm : s + e = mid + m) (k : Nat) : (k < s ∧ rot f s m e k = f k) ∨ (s ≤ k ∧ k < mid ∧ rot f s m e k = f (k + (m - s)) ∧ m ≤ k + (m - s) ∧ k + (m - s) < e) ∨ (mid ≤ k ∧ k < e ∧ rot f s m e k = f (k - (e - m)) ∧ s ≤ k - (e - m) ∧ k - (e - m) < m) ∨ (e ≤ k ∧ rot f s m e k = f k) := by
  unfold rot
  by_cases h1 : k < s
  · exact .inl ⟨h1, by rw [if_neg (by omega), if_neg (by omega)]⟩
  · by_cases h2 : k < mid
    · exact .inr (.inl ⟨by omega, h2, by rw [if_pos (by omega)], by omega, by omega⟩)
    · by_cases h3 : k < e
      · exact .inr (.inr (.inl ⟨by omega, h3, by rw [if_neg (by omega), if_pos (by omega)], by omega, by omega⟩))
      · exact .inr (.inr (.inr ⟨by omega, by rw [if_neg (by omega), if_neg (by omega)]⟩))

/-- All that is left of the middle is below all that is right of it. -/
theorem Cut.apart {key f : Nat → Nat} {a m b mid start fin : Nat} (c : Cut key f a m b mid start fin) (h1 : Srt key f a m) (h2 : Srt key f m b) : ∀ i j, a ≤ i → i < mid → mid ≤ j → j < b → rk key (rot f start m fin i) < rk key (rot f start m fin j) := by
  intro i j ha hi hj hb
  have cl := c.len; have c1 := c.lo; have c2 := c.sm; have c3 := c.me; have c4 := c.hi; have c5 := c.smid
  rcases rot_at f c2 c3 mid cl i with ⟨q1, e1⟩ | ⟨q1, q2, e1, q3, q4⟩ | ⟨q1, q2, e1, q3, q4⟩ | ⟨q1, e1⟩
  · rcases rot_at f c2 c3 mid cl j with ⟨r1, e2⟩ | ⟨r1, r2, e2, r3, r4⟩ | ⟨r1, r2, e2, r3, r4⟩ | ⟨r1, e2⟩
    · omega
    · omega
    · rw [e1, e2]; exact h1 _ _ ha (by omega) r4
    · rw [e1, e2]; exact c.left _ _ ha q1 r1 hb
  · rcases rot_at f c2 c3 mid cl j with ⟨r1, e2⟩ | ⟨r1, r2, e2, r3, r4⟩ | ⟨r1, r2, e2, r3, r4⟩ | ⟨r1, e2⟩
    · omega
    · omega
    · rw [e1, e2]; exact c.right _ _ r3 r4 q3 q4
    · rw [e1, e2]; exact h2 _ _ q3 (by omega) hb
  · omega
  · omega

theorem Cut.srt1 {key f : Nat → Nat} {a m b mid start fin : Nat} (c : Cut key f a m b mid start fin) (h1 : Srt key f a m) (h2 : Srt key f m b) : Srt key (rot f start m fin) a start ∧ Srt key (rot f start m fin) start mid ∧ Srt key (rot f start m fin) mid fin ∧ Srt key (rot f start m fin) fin b := by
  have cl := c.len; have c1 := c.lo; have c2 := c.sm; have c3 := c.me; have c4 := c.hi; have c5 := c.smid
  refine ⟨fun i j p1 p2 p3 => ?_, fun i j p1 p2 p3 => ?_, fun i j p1 p2 p3 => ?_, fun i j p1 p2 p3 => ?_⟩ <;>
    rcases rot_at f c2 c3 mid cl i with ⟨q1, e1⟩ | ⟨q1, q2, e1, q3, q4⟩ | ⟨q1, q2, e1, q3, q4⟩ | ⟨q1, e1⟩ <;>
    rcases rot_at f c2 c3 mid cl j with ⟨r1, e2⟩ | ⟨r1, r2, e2, r3, r4⟩ | ⟨r1, r2, e2, r3, r4⟩ | ⟨r1, e2⟩ <;>
    first
      | omega
      | (rw [e1, e2]; first | exact h1 _ _ (by omega) (by omega) (by omega) | exact h2 _ _ (by omega) (by omega) (by omega))

theorem Cut.cross {key f : Nat → Nat} {a m b mid start fin : Nat} (c : Cut key f a m b mid start fin) (hx : Cross key f a m b) : Cross key (rot f start m fin) a start mid ∧ Cross key (rot f start m fin) mid fin b := by
  have cl := c.len; have c1 := c.lo; have c2 := c.sm; have c3 := c.me; have c4 := c.hi; have c5 := c.smid
  refine ⟨fun i j p1 p2 p3 p4 => ?_, fun i j p1 p2 p3 p4 => ?_⟩ <;>
    rcases rot_at f c2 c3 mid cl i with ⟨q1, e1⟩ | ⟨q1, q2, e1, q3, q4⟩ | ⟨q1, q2, e1, q3, q4⟩ | ⟨q1, e1⟩ <;>
    rcases rot_at f c2 c3 mid cl j with ⟨r1, e2⟩ | ⟨r1, r2, e2, r3, r4⟩ | ⟨r1, r2, e2, r3, r4⟩ | ⟨r1, e2⟩ <;>
    first
      | omega
      | (rw [e1, e2]; exact hx _ _ (by omega) (by omega) (by omega) (by omega))

/-- Both sides sorted: all is. -/
theorem srt_join {key f g h : Nat → Nat} {a mid b : Nat} (hamid : a ≤ mid) (hmidb : mid ≤ b) (hap : ∀ i j, a ≤ i → i < mid → mid ≤ j → j < b → rk key (f i) < rk key (f j)) (s1 : Same f g a mid) (t1 : Srt key g a mid) (s2 : Same g h mid b) (t2 : Srt key h mid b) : Srt key h a b ∧ Same f h a b := by
  refine ⟨fun i j p1 p2 p3 => ?_, (s1.wide (Nat.le_refl _) hmidb).trans (s2.wide hamid (Nat.le_refl _))⟩
  rcases Nat.lt_or_ge j mid with q | q
  · rw [s2.out i (by omega), s2.out j (by omega)]
    exact t1 i j p1 p2 q
  · rcases Nat.lt_or_ge i mid with r | r
    · rw [s2.out i (by omega)]
      obtain ⟨i', a1, b1, e1⟩ := s1.back i p1 r
      obtain ⟨j', a2, b2, e2⟩ := s2.back j q p3
      rw [e1, e2, s1.out j' (by omega)]
      exact hap i' j' a1 b1 a2 b2
    · exact t2 i j r p2 p3

/-- The cut, as it is found: lo is where the search began, r where it ended. -/
theorem cut_found {key f : Nat → Nat} {a m b mid start lo r0 : Nat} (hmid : mid = (a + b) / 2) (ham : a < m) (hmb : m < b) (hlo : (m > mid ∧ lo = mid + m - b ∧ r0 = mid) ∨ (m ≤ mid ∧ lo = a ∧ r0 = m))
    (h1 : Srt key f a m) (h2 : Srt key f m b) (hs : lo ≤ start) (hr : start ≤ r0)
    (hL : lo < start → rk key (f (start - 1)) < rk key (f (mid + m - start))) (hR : start < r0 → rk key (f (mid + m - 1 - start)) < rk key (f start)) : Cut key f a m b mid start (mid + m - start) where
  len := by omega
  lo := by omega
  sm := by omega
  me := by omega
  hi := by omega
  smid := by omega
  amid := by omega
  midb := by omega
  left := fun i j p1 p2 p3 p4 => by
    have hlt : lo < start := by omega
    have k1 : rk key (f i) ≤ rk key (f (start - 1)) := by
      rcases Nat.lt_or_ge i (start - 1) with h | h
      · exact Nat.le_of_lt (h1 i (start - 1) p1 h (by omega))
      · rw [show i = start - 1 by omega]; exact Nat.le_refl _
    have k2 : rk key (f (mid + m - start)) ≤ rk key (f j) := by
      rcases Nat.lt_or_ge (mid + m - start) j with h | h
      · exact Nat.le_of_lt (h2 (mid + m - start) j (by omega) h p4)
      · rw [show j = mid + m - start by omega]; exact Nat.le_refl _
    have := hL hlt
    omega
  right := fun i j p1 p2 p3 p4 => by
    have hlt : start < r0 := by omega
    have k1 : rk key (f start) ≤ rk key (f i) := by
      rcases Nat.lt_or_ge start i with h | h
      · exact Nat.le_of_lt (h1 start i (by omega) h p2)
      · rw [show i = start by omega]; exact Nat.le_refl _
    have k2 : rk key (f j) ≤ rk key (f (mid + m - 1 - start)) := by
      rcases Nat.lt_or_ge j (mid + m - 1 - start) with h | h
      · exact Nat.le_of_lt (h2 j (mid + m - 1 - start) p3 h (by omega))
      · rw [show j = mid + m - 1 - start by omega]; exact Nat.le_refl _
    have := hR hlt
    omega
end Go.Proofs.YtdplflcaanmmiaaGreat

namespace Go.Proofs.YtdplflcaanmmiaaGreat
open Go.ChangeShapes Go.WideShapes Go.ChangeAt Go.RowKit

set_option maxRecDepth 20000 in
set_option maxHeartbeats 4000000 in
/-- The left block is one number. -/
theorem sym_left {w0 W : World} {g n bx : Nat} {f key : Nat → Nat} (h : RowAt w0 g n f W) (hc : CmpAt w0 g n bx key) (a m b : Nat) (ham : m = a + 1) (hmb : m < b) (hb : b ≤ n) (hn : n ≤ 1000000) (hsm : Small f n) (h2 : Srt key f m b) (hx : Cross key f a m b) :
    Calls Tryz.prog 129 #[.slice (some ⟨g, 0, none⟩) n n, .int .i64 (a : Int), .int .i64 (m : Int), .int .i64 (b : Int), cmpV bx] W fun e w' => e = .returned (.tuple #[]) ∧ ∃ f', RowAt w0 g n f' w' ∧ Srt key f' a b ∧ Same f f' a b := by
  have mixed : Tryz.prog.follows .mixedOrders = true := by kernel_rfl
  have HC := hid hc
  have HM := hid ham
  have H0 := hid h
  have han : a < n := by omega
  have ham1 : a < m := by omega
  have ema : (m : Int) - (a : Int) = 1 := by omega
  obtain ⟨y, hy⟩ : ∃ y, y = f a := ⟨_, rfl⟩
  have hyn : y < n := by rw [hy]; exact hsm a han
  have HY := hid hy
  have HSM := hid hsm
  have H2 := hid h2
  have HX := hid hx
  have hxa : decide ((0 : Int) ≤ (a : Int) ∧ (a : Int) < (n : Int)) = true := decide_eq_true ⟨by omega, by omega⟩
  clear hc ham h hy hsm h2 hx
  unfold cmpV
  go_enter Tryz.func129, Tryz.ntmps129
  go_wp2
  go_loopg [10, 11] n (fun g1 vi vj wr => ∃ i j : Nat, vi = .int .i64 i ∧ vj = .int .i64 j ∧ m ≤ i ∧ i ≤ j ∧ j ≤ b ∧ j - i ≤ g1 ∧ Hid (RowAt w0 g n f wr) ∧ Hid (∀ k, m ≤ k → k < i → rk key (f k) < rk key (f a)) ∧ Hid (∀ k, j ≤ k → k < b → rk key (f a) < rk key (f k)))
  case atStart => exact ⟨m, b, rfl, rfl, by omega, by omega, by omega, by omega, H0.out, (fun k h1 h2 => by omega), (fun k h1 h2 => by omega)⟩
  case round =>
    obtain ⟨i, j, rfl, rfl, hmi, hij, hjb, hg, hR, hA, hB⟩ := hrel
    by_cases hlt : i < j
    · obtain ⟨q, hq⟩ : ∃ q, q = (i + j) / 2 := ⟨_, rfl⟩
      have eq1 : ((i : Int) + (j : Int)) / 2 = (q : Int) := by omega
      have hqi : i ≤ q := by omega
      have hqj : q < j := by omega
      have hqn : q < n := by omega
      clear hq
      obtain ⟨x, hx⟩ : ∃ x, x = f q := ⟨_, rfl⟩
      have hxn : x < n := by rw [hx]; exact HSM.out q hqn
      have c1 := hR.out.row.cell hqn
      have c2 := hR.out.row.cell han
      rw [← hx] at c1
      rw [← HY.out] at c2
      have hxq : decide ((0 : Int) ≤ (q : Int) ∧ (q : Int) < (n : Int)) = true := decide_eq_true ⟨by omega, by omega⟩
      have HXE := hid hx
      clear hx
      by_cases hk : key x < key y
      · have hcv := c3_lt hk
        have hcd : decide (c3 (key x) (key y) < 0) = true := decide_eq_true (by rw [hcv]; decide)
        have HA2 : Hid (∀ k, m ≤ k → k < q + 1 → rk key (f k) < rk key (f a)) := fun k h1 h3 => by
          have h4 : rk key (f q) < rk key (f a) := by rw [← HXE.out, ← HY.out]; exact rk_lt (by omega) hk
          rcases Nat.lt_or_ge k q with h5 | h5
          · exact Nat.lt_trans (H2.out k q h1 h5 (by omega)) h4
          · rw [show k = q by omega]; exact h4
        clear hcv hk hA
        go_wp2_with fail
        go_quiet ((go_at_call 104; exact Calls.quiet_of (HC.out _ (hR.out.kept.trans (Kept.drewN _ _ _)) x y hxn hyn)))
        have HR5 := hid (hR.out.drewN nq)
        clear c1 c2 hR
        generalize wr.drewN nq = w2 at HR5 ⊢
        go_wp2
        go_roundg (j - (q + 1))
        case measure => omega
        case rel => exact ⟨q + 1, j, by go_num, rfl, by omega, by omega, hjb, by omega, HR5.out, HA2.out, hB.out⟩
      · have hcv := c3_ge (Nat.le_of_not_lt hk)
        have hcd : decide (c3 (key x) (key y) < 0) = false := decide_eq_false hcv
        have HB2 : Hid (∀ k, q ≤ k → k < b → rk key (f a) < rk key (f k)) := fun k h1 h3 => by
          have h4 : rk key (f a) < rk key (f q) := by
            refine rk_le (by rw [← HY.out]; omega) (by rw [← HXE.out, ← HY.out]; exact hk) (fun e => HX.out a q (Nat.le_refl _) ham1 (by omega) (by omega) e)
          rcases Nat.lt_or_ge q k with h5 | h5
          · exact Nat.lt_trans h4 (H2.out q k (by omega) h5 h3)
          · rw [show k = q by omega]; exact h4
        clear hcv hk hB
        go_wp2_with fail
        go_quiet ((go_at_call 104; exact Calls.quiet_of (HC.out _ (hR.out.kept.trans (Kept.drewN _ _ _)) x y hxn hyn)))
        have HR5 := hid (hR.out.drewN nq)
        clear c1 c2 hR
        generalize wr.drewN nq = w2 at HR5 ⊢
        go_wp2
        go_roundg (q - i)
        case measure => omega
        case rel => exact ⟨i, q, rfl, by first | rfl | go_num, by omega, by omega, by omega, by omega, HR5.out, hA.out, HB2.out⟩
    · obtain rfl : i = j := by omega
      obtain ⟨p, hp⟩ : ∃ p, i = p + 1 := ⟨i - 1, by omega⟩
      have ep : (i : Int) - 1 = (p : Int) := by omega
      have hap : a ≤ p := by omega
      have hpb : p < b := by omega
      have HEND : Hid (Srt key (mvR f a p) a b ∧ Same f (mvR f a p) a b) := by
        have hm := HM.out
        refine ⟨srt_mvR (by rw [← hm]; exact H2.out) hap hpb (fun k h1 h3 => hA.out k (by omega) (by omega)) (fun k h1 h3 => hB.out k (by omega) h3), (same_mvR f a p hap).wide (Nat.le_refl _) (by omega)⟩
      clear hA hB hp
      go_wp2
      go_loopw [13] (fun vk wr => ∃ k : Nat, vk = .int .i64 k ∧ a ≤ k ∧ k ≤ p ∧ Hid (RowAt w0 g n (mvR f a k) wr)) (fun vk _ => p - (intOf vk).toNat)
      case atStart => exact ⟨a, rfl, by omega, by omega, by rw [mvR_zero]; exact hR.out⟩
      case round =>
        clear hR
        obtain ⟨k, rfl, hak, hkp, hR⟩ := hrel
        by_cases hlt2 : k < p
        · obtain ⟨q, hq⟩ : ∃ q, q = k + 1 := ⟨_, rfl⟩
          have e2 : (k : Int) + 1 = (q : Int) := by omega
          have hkn : k < n := by omega
          have hqn : q < n := by omega
          have hkq : k ≠ q := by omega
          have c1 := hR.out.row.cell hkn
          have c2 := hR.out.row.cell hqn
          have f1 := hR.out.row.frozen k
          have f2 := hR.out.row.frozen q
          have c3' : (wr.setCell ⟨g, k, none⟩ (.int .i64 (mvR f a k q : Int))).cell? ⟨g, q, none⟩ = some (.int .i64 (mvR f a k q : Int)) := by
            have h3 := (hR.out.row.set k (.int .i64 (mvR f a k q : Int))).cell hqn
            simpa [Ne.symm hkq] using h3
          have HS := hid (hR.out.swap k q hkq)
          have hsw : swp2 (mvR f a k) k q = mvR f a q := by rw [hq]; exact mvR_succ f a k hak
          rw [hsw] at HS
          have hx1 : decide ((0 : Int) ≤ (k : Int) ∧ (k : Int) < (n : Int)) = true := decide_eq_true ⟨by omega, by omega⟩
          have hx2 : decide ((0 : Int) ≤ (q : Int) ∧ (q : Int) < (n : Int)) = true := decide_eq_true ⟨by omega, by omega⟩
          have hw1 : IntKind.i64.wrap (k : Int) = (k : Int) := by rw [IntKind.wrap_i64]; omega
          have hw2 : IntKind.i64.wrap (q : Int) = (q : Int) := by rw [IntKind.wrap_i64]; omega
          have haq : a ≤ q := by omega
          have hqp : q ≤ p := by omega
          have hkq2 : k < q := by omega
          clear hq hsw hR
          generalize (mvR f a k k : Nat) = x at c1 c3' HS
          generalize (mvR f a k q : Nat) = z at c2 c3' HS
          go_wp2_with fail
          go_big_region_o
          clear c1 c2 c3' f1 f2 hx1 hx2
          generalize ((wr.setCell ⟨g, k, none⟩ (.int .i64 (z : Int))).setCell ⟨g, q, none⟩ (.int .i64 (x : Int))).drew = w3 at HS ⊢
          go_wp2
          go_roundw
          case rel => exact ⟨q, by first | rfl | go_num, haq, hqp, HS.out⟩
          case measure => simp [intOf]; omega
        · obtain rfl : k = p := by omega
          go_wp2
          exact bodyPost_ret (v := .tuple #[]) (by simp [results, Tryz.results129, go_sem]) rfl ⟨rfl, _, hR.out, HEND.out.1, HEND.out.2⟩

set_option maxRecDepth 20000 in
set_option maxHeartbeats 4000000 in
/-- The right block is one number. -/
theorem sym_right {w0 W : World} {g n bx : Nat} {f key : Nat → Nat} (h : RowAt w0 g n f W) (hc : CmpAt w0 g n bx key) (a m b : Nat) (ham : a + 1 < m) (hmb : b = m + 1) (hb : b ≤ n) (hn : n ≤ 1000000) (hsm : Small f n) (h1 : Srt key f a m) (hx : Cross key f a m b) :
    Calls Tryz.prog 129 #[.slice (some ⟨g, 0, none⟩) n n, .int .i64 (a : Int), .int .i64 (m : Int), .int .i64 (b : Int), cmpV bx] W fun e w' => e = .returned (.tuple #[]) ∧ ∃ f', RowAt w0 g n f' w' ∧ Srt key f' a b ∧ Same f f' a b := by
  have mixed : Tryz.prog.follows .mixedOrders = true := by kernel_rfl
  have HC := hid hc
  have HM := hid hmb
  have H0 := hid h
  have hmn : m < n := by omega
  obtain ⟨d, hd⟩ : ∃ d, d = m - a := ⟨_, rfl⟩
  have ema : (m : Int) - (a : Int) = (d : Int) := by omega
  have hd1 : ¬ (d = 1) := by omega
  have hd2 : ¬ ((d : Int) = 1) := by omega
  have ebm : (b : Int) - (m : Int) = 1 := by omega
  obtain ⟨y, hy⟩ : ∃ y, y = f m := ⟨_, rfl⟩
  have hyn : y < n := by rw [hy]; exact hsm m hmn
  have HY := hid hy
  have HSM := hid hsm
  have H1 := hid h1
  have HX := hid hx
  have hxa : decide ((0 : Int) ≤ (m : Int) ∧ (m : Int) < (n : Int)) = true := decide_eq_true ⟨by omega, by omega⟩
  clear hc hmb h hy hsm h1 hx hd
  unfold cmpV
  go_enter Tryz.func129, Tryz.ntmps129
  go_wp2
  go_loopg [14, 15] n (fun g1 vi vj wr => ∃ i j : Nat, vi = .int .i64 i ∧ vj = .int .i64 j ∧ a ≤ i ∧ i ≤ j ∧ j ≤ m ∧ j - i ≤ g1 ∧ Hid (RowAt w0 g n f wr) ∧ Hid (∀ k, a ≤ k → k < i → rk key (f k) < rk key (f m)) ∧ Hid (∀ k, j ≤ k → k < m → rk key (f m) < rk key (f k)))
  case atStart => exact ⟨a, m, rfl, rfl, by omega, by omega, by omega, by omega, H0.out, (fun k h1 h2 => by omega), (fun k h1 h2 => by omega)⟩
  case round =>
    obtain ⟨i, j, rfl, rfl, hmi, hij, hjb, hg, hR, hA, hB⟩ := hrel
    by_cases hlt : i < j
    · obtain ⟨q, hq⟩ : ∃ q, q = (i + j) / 2 := ⟨_, rfl⟩
      have eq1 : ((i : Int) + (j : Int)) / 2 = (q : Int) := by omega
      have hqi : i ≤ q := by omega
      have hqj : q < j := by omega
      have hqn : q < n := by omega
      clear hq
      obtain ⟨x, hx⟩ : ∃ x, x = f q := ⟨_, rfl⟩
      have hxn : x < n := by rw [hx]; exact HSM.out q hqn
      have c1 := hR.out.row.cell hqn
      have c2 := hR.out.row.cell hmn
      rw [← hx] at c1
      rw [← HY.out] at c2
      have hxq : decide ((0 : Int) ≤ (q : Int) ∧ (q : Int) < (n : Int)) = true := decide_eq_true ⟨by omega, by omega⟩
      have HXE := hid hx
      clear hx
      by_cases hk : key y < key x
      · have hcv := c3_lt hk
        have hcd : decide (c3 (key y) (key x) < 0) = true := decide_eq_true (by rw [hcv]; decide)
        have HB2 : Hid (∀ k, q ≤ k → k < m → rk key (f m) < rk key (f k)) := fun k h1 h3 => by
          have h4 : rk key (f m) < rk key (f q) := by rw [← HXE.out, ← HY.out]; exact rk_lt (by omega) hk
          rcases Nat.lt_or_ge q k with h5 | h5
          · exact Nat.lt_trans h4 (H1.out q k (by omega) h5 h3)
          · rw [show k = q by omega]; exact h4
        clear hcv hk hB
        go_wp2_with fail
        go_quiet ((go_at_call 104; exact Calls.quiet_of (HC.out _ (hR.out.kept.trans (Kept.drewN _ _ _)) y x hyn hxn)))
        have HR5 := hid (hR.out.drewN nq)
        clear c1 c2 hR
        generalize wr.drewN nq = w2 at HR5 ⊢
        go_wp2
        go_roundg (q - i)
        case measure => omega
        case rel => exact ⟨i, q, rfl, by first | rfl | go_num, by omega, by omega, by omega, by omega, HR5.out, hA.out, HB2.out⟩
      · have hcv := c3_ge (Nat.le_of_not_lt hk)
        have hcd : decide (c3 (key y) (key x) < 0) = false := decide_eq_false hcv
        have HA2 : Hid (∀ k, a ≤ k → k < q + 1 → rk key (f k) < rk key (f m)) := fun k h1 h3 => by
          have h4 : rk key (f q) < rk key (f m) := by
            refine rk_le (by rw [← HXE.out]; omega) (by rw [← HXE.out, ← HY.out]; exact hk) (fun e => HX.out q m (by omega) (by omega) (Nat.le_refl _) (by have := HM.out; omega) e)
          rcases Nat.lt_or_ge k q with h5 | h5
          · exact Nat.lt_trans (H1.out k q h1 h5 (by omega)) h4
          · rw [show k = q by omega]; exact h4
        clear hcv hk hA
        go_wp2_with fail
        go_quiet ((go_at_call 104; exact Calls.quiet_of (HC.out _ (hR.out.kept.trans (Kept.drewN _ _ _)) y x hyn hxn)))
        have HR5 := hid (hR.out.drewN nq)
        clear c1 c2 hR
        generalize wr.drewN nq = w2 at HR5 ⊢
        go_wp2
        go_roundg (j - (q + 1))
        case measure => omega
        case rel => exact ⟨q + 1, j, by go_num, rfl, by omega, by omega, hjb, by omega, HR5.out, HA2.out, hB.out⟩
    · obtain rfl : i = j := by omega
      have HEND : Hid (Srt key (mvL f i m) a b ∧ Same f (mvL f i m) a b) := by
        have hm := HM.out
        refine ⟨by rw [hm]; exact srt_mvL H1.out hmi hjb (fun k h1 h3 => hA.out k h1 h3) (fun k h1 h3 => hB.out k h1 h3), (same_mvL f i m hjb).wide hmi (by omega)⟩
      clear hA hB
      go_wp2
      go_loopw [17] (fun vk wr => ∃ k : Nat, vk = .int .i64 k ∧ i ≤ k ∧ k ≤ m ∧ Hid (RowAt w0 g n (mvL f k m) wr)) (fun vk _ => (intOf vk).toNat - i)
      case atStart => exact ⟨m, rfl, by omega, by omega, by rw [mvL_zero]; exact hR.out⟩
      case round =>
        clear hR
        obtain ⟨k, rfl, hak, hkp, hR⟩ := hrel
        by_cases hlt2 : i < k
        · obtain ⟨q, hq⟩ : ∃ q, k = q + 1 := ⟨k - 1, by omega⟩
          have e2 : (k : Int) - 1 = (q : Int) := by omega
          have hkn : k < n := by omega
          have hqn : q < n := by omega
          have hkq : k ≠ q := by omega
          have c1 := hR.out.row.cell hkn
          have c2 := hR.out.row.cell hqn
          have f1 := hR.out.row.frozen k
          have f2 := hR.out.row.frozen q
          have c3' : (wr.setCell ⟨g, k, none⟩ (.int .i64 (mvL f k m q : Int))).cell? ⟨g, q, none⟩ = some (.int .i64 (mvL f k m q : Int)) := by
            have h3 := (hR.out.row.set k (.int .i64 (mvL f k m q : Int))).cell hqn
            simpa [Ne.symm hkq] using h3
          have HS := hid (hR.out.swap k q hkq)
          have hsw : swp2 (mvL f k m) k q = mvL f q m := by rw [hq]; exact mvL_succ f q m (by omega)
          rw [hsw] at HS
          have hx1 : decide ((0 : Int) ≤ (k : Int) ∧ (k : Int) < (n : Int)) = true := decide_eq_true ⟨by omega, by omega⟩
          have hx2 : decide ((0 : Int) ≤ (q : Int) ∧ (q : Int) < (n : Int)) = true := decide_eq_true ⟨by omega, by omega⟩
          have hw1 : IntKind.i64.wrap (k : Int) = (k : Int) := by rw [IntKind.wrap_i64]; omega
          have hw2 : IntKind.i64.wrap (q : Int) = (q : Int) := by rw [IntKind.wrap_i64]; omega
          have haq : i ≤ q := by omega
          have hqp : q ≤ m := by omega
          have hkq2 : q < k := by omega
          clear hq hsw hR
          generalize (mvL f k m k : Nat) = x at c1 c3' HS
          generalize (mvL f k m q : Nat) = z at c2 c3' HS
          go_wp2_with fail
          go_big_region_o
          clear c1 c2 c3' f1 f2 hx1 hx2
          generalize ((wr.setCell ⟨g, k, none⟩ (.int .i64 (z : Int))).setCell ⟨g, q, none⟩ (.int .i64 (x : Int))).drew = w3 at HS ⊢
          go_wp2
          go_roundw
          case rel => exact ⟨q, by first | rfl | go_num, haq, hqp, HS.out⟩
          case measure => simp [intOf]; omega
        · obtain rfl : k = i := by omega
          go_wp2
          exact bodyPost_ret (v := .tuple #[]) (by simp [results, Tryz.results129, go_sem]) rfl ⟨rfl, _, hR.out, HEND.out.1, HEND.out.2⟩
end Go.Proofs.YtdplflcaanmmiaaGreat
