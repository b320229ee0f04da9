/-
  The library's stable sort of numbers: swapRangeCmpFunc, rotateCmpFunc.
-/
import Derived.Test.YtmaadeeocppkfaaSortMath
import Derived.Test.YtmaadeeocppkfaaCopies
import Derived.Test.YtmaadeeocppkfaaSearch
import Derived.Shelf.RegionOpenPlain
import Derived.Deep.LoopGhost
namespace Go.Proofs.Ytmaadeeocppkfaa
open Go.ChangeShapes Go.WideShapes Go.ChangeAt Go.RowKit

/-- The row at block g holds the numbers f; nothing else of what lay in w0 has turned. -/
structure RowAt (w0 : World) (g n : Nat) (f : Nat → Nat) (W : World) : Prop where
  row : W.rowIs g 3 n (fun i => .int .i64 (f i : Int))
  kept : Kept (· = g) w0 W

theorem RowAt.drewN {w0 W : World} {g n : Nat} {f : Nat → Nat} (h : RowAt w0 g n f W) (q : Nat) : RowAt w0 g n f (W.drewN q) := by
  refine ⟨?_, h.kept.trans (Kept.drewN _ W q)⟩
  have hr := h.row
  clear h
  induction q generalizing W with
  | zero => exact hr
  | succ q ih => exact ih (W := W.drew) hr

theorem RowAt.swap {w0 W : World} {g n : Nat} {f : Nat → Nat} (h : RowAt w0 g n f W) (i j : Nat) (hij : i ≠ j) : RowAt w0 g n (swp2 f i j) ((W.setCell ⟨g, i, none⟩ (.int .i64 (f j : Int))).setCell ⟨g, j, none⟩ (.int .i64 (f i : Int))).drew := by
  refine ⟨((((h.row.set i (.int .i64 (f j : Int))).set j (.int .i64 (f i : Int))).drew).congr (fun k _ => ?_)), ((h.kept.setCell g i _ rfl).setCell g j _ rfl).trans (Kept.drewN _ _ 1)⟩
  unfold swp2
  by_cases h1 : k = j
  · subst h1
    rw [if_pos rfl, if_neg (by omega), if_pos rfl]
  · rw [if_neg h1]
    by_cases h2 : k = i
    · rw [if_pos h2, if_pos h2]
    · rw [if_neg h2, if_neg h2, if_neg h1]

set_option maxRecDepth 20000 in
set_option maxHeartbeats 2000000 in
theorem swapRange_any {w0 W : World} {g n : Nat} {f : Nat → Nat} (h : RowAt w0 g n f W) (a b c : Nat) (hab : a + c ≤ b) (hb : b + c ≤ n) (hn : n ≤ 1000000) (cv : Value) :
    Calls Try.prog 74 #[.slice (some ⟨g, 0, none⟩) n n, .int .i64 (a : Int), .int .i64 (b : Int), .int .i64 (c : Int), cv] W fun e w' => e = .returned (.tuple #[]) ∧ RowAt w0 g n (swr f a b c) w' := by
  have mixed : Try.prog.follows .mixedOrders = true := by kernel_rfl
  have H := hid h
  clear h
  go_enter Try.func74, Try.ntmps74
  go_wp2
  go_loopw [10] (fun vi wr => ∃ i : Nat, vi = .int .i64 i ∧ i ≤ c ∧ Hid (RowAt w0 g n (swr f a b i) wr)) (fun vi _ => c - (intOf vi).toNat)
  case atStart => exact ⟨0, rfl, by omega, by rw [swr_zero]; exact H.out⟩
  case round =>
    obtain ⟨i, rfl, hi, hR⟩ := hrel
    by_cases hlt : i < c
    · obtain ⟨p, hp⟩ : ∃ p, p = a + i := ⟨_, rfl⟩
      obtain ⟨q, hq⟩ : ∃ q, q = b + i := ⟨_, rfl⟩
      have e1 : (a : Int) + (i : Int) = (p : Int) := by omega
      have e2 : (b : Int) + (i : Int) = (q : Int) := by omega
      have hpn : p < n := by omega
      have hqn : q < n := by omega
      have hpq : p ≠ q := by omega
      have c1 := hR.out.row.cell hpn
      have c2 := hR.out.row.cell hqn
      have f1 := hR.out.row.frozen p
      have f2 := hR.out.row.frozen q
      have c3 : (wr.setCell ⟨g, p, none⟩ (.int .i64 (swr f a b i q : Int))).cell? ⟨g, q, none⟩ = some (.int .i64 (swr f a b i q : Int)) := by
        have h3 := (hR.out.row.set p (.int .i64 (swr f a b i q : Int))).cell hqn
        simpa [Ne.symm hpq] using h3
      have HS := hid (hR.out.swap p q hpq)
      have hsw : swp2 (swr f a b i) p q = swr f a b (i + 1) := by rw [hp, hq]; exact swr_succ f a b i (by omega)
      rw [hsw] at HS
      have hx1 : decide ((0 : Int) ≤ (p : Int) ∧ (p : Int) < (n : Int)) = true := decide_eq_true ⟨by omega, by omega⟩
      have hx2 : decide ((0 : Int) ≤ (q : Int) ∧ (q : Int) < (n : Int)) = true := decide_eq_true ⟨by omega, by omega⟩
      have HP := hid hp
      have HQ := hid hq
      clear hp hq hsw
      generalize (swr f a b i p : Nat) = x at c1 c3 HS
      generalize (swr f a b i q : Nat) = y at c2 c3 HS
      go_wp2_with fail
      go_big_region_o
      clear c1 c2 c3 f1 f2 hx1 hx2
      generalize ((wr.setCell ⟨g, p, none⟩ (.int .i64 (y : Int))).setCell ⟨g, q, none⟩ (.int .i64 (x : Int))).drew = w3 at HS ⊢
      go_wp2
      go_roundw
      case rel => exact ⟨i + 1, by go_num, by omega, HS.out⟩
      case measure => simp [intOf]; omega
    · obtain rfl : i = c := by omega
      go_wp2
      exact bodyPost_end (v := .tuple #[]) (by simp [results, Try.results74, go_sem]) rfl ⟨rfl, hR.out⟩

set_option maxRecDepth 20000 in
set_option maxHeartbeats 2000000 in
theorem rotate_any {w0 W : World} {g n : Nat} {f : Nat → Nat} (h : RowAt w0 g n f W) (a m b : Nat) (ham : a < m) (hmb : m < b) (hb : b ≤ n) (hn : n ≤ 1000000) (cv : Value) :
    Calls Try.prog 71 #[.slice (some ⟨g, 0, none⟩) n n, .int .i64 (a : Int), .int .i64 (m : Int), .int .i64 (b : Int), cv] W fun e w' => e = .returned (.tuple #[]) ∧ RowAt w0 g n (rot f a m b) w' := by
  have H := hid h
  clear h
  obtain ⟨i0, hi0⟩ : ∃ i, i = m - a := ⟨_, rfl⟩
  obtain ⟨j0, hj0⟩ : ∃ j, j = b - m := ⟨_, rfl⟩
  have e1 : (m : Int) - (a : Int) = (i0 : Int) := by omega
  have e2 : (b : Int) - (m : Int) = (j0 : Int) := by omega
  have HR0 : Hid (rot f (m - i0) m (m + j0) = rot f a m b) := by
    show _ = _
    rw [show m - i0 = a by omega, show m + j0 = b by omega]
  have hi1 : 0 < i0 := by omega
  have hj1 : 0 < j0 := by omega
  have hi2 : i0 ≤ m := by omega
  have hj2 : m + j0 ≤ n := by omega
  clear hi0 hj0
  go_enter Try.func71, Try.ntmps71
  go_wp2
  go_loopw [10, 11] (fun vi vj wr => ∃ i j : Nat, ∃ f' : Nat → Nat, vi = .int .i64 i ∧ vj = .int .i64 j ∧ 0 < i ∧ 0 < j ∧ i ≤ m ∧ m + j ≤ n ∧ Hid (RowAt w0 g n f' wr) ∧ Hid (rot f' (m - i) m (m + j) = rot f a m b)) (fun vi vj _ => (intOf vi).toNat + (intOf vj).toNat)
  case atStart => exact ⟨i0, j0, f, rfl, rfl, hi1, hj1, hi2, hj2, H.out, HR0.out⟩
  case round =>
    obtain ⟨i, j, f', rfl, rfl, hi, hj, him, hjn, hR, hE⟩ := hrel
    obtain ⟨p, hp⟩ : ∃ p, p = m - i := ⟨_, rfl⟩
    have e3 : (m : Int) - (i : Int) = (p : Int) := by omega
    rcases Nat.lt_trichotomy i j with hlt | heq | hgt
    · obtain ⟨q, hq⟩ : ∃ q, q = m + j - i := ⟨_, rfl⟩
      obtain ⟨d, hd⟩ : ∃ d, d = j - i := ⟨_, rfl⟩
      have e4 : (m : Int) + (j : Int) - (i : Int) = (q : Int) := by omega
      have e5 : (j : Int) - (i : Int) = (d : Int) := by omega
      have hne : ¬ ((i : Int) = (j : Int)) := by omega
      have hne2 : ¬ (i = j) := by omega
      have hng : ¬ (j < i) := by omega
      have hpq : p + i ≤ q := by omega
      have hqn : q + i ≤ n := by omega
      have hE2 : rot (swr f' p q i) (m - i) m (m + d) = rot f a m b := by rw [hp, hq, hd, rot_right f' m i j him hlt]; exact hE.out
      have HE2 := hid hE2
      have hd0 : 0 < d := by omega
      have hdn : m + d ≤ n := by omega
      have hdj : d < j := by omega
      clear hE2 hE hp hq hd
      go_wp2_with (go_at_call 74; refine (swapRange_any hR.out p q i hpq hqn hn cv).mono ?_; rintro e w5 ⟨rfl, hR5⟩; have HR5 := hid hR5; clear hR5)
      go_roundw
      case rel => exact ⟨i, d, swr f' p q i, by go_num, by go_num, hi, hd0, him, hdn, HR5.out, HE2.out⟩
      case measure => simp [intOf]; omega
    · subst heq
      have hE2 : swr f' p m i = rot f a m b := by rw [hp, rot_even f' m i him]; exact hE.out
      have HE2 := hid hE2
      have hpq : p + i ≤ m := by omega
      clear hE2 hE hp
      go_wp2_with (go_at_call 74; refine (swapRange_any hR.out p m i hpq hjn hn cv).mono ?_; rintro e w5 ⟨rfl, hR5⟩; have HR5 := hid hR5; clear hR5)
      exact bodyPost_end (v := .tuple #[]) (by simp [results, Try.results71, go_sem]) rfl ⟨rfl, by rw [← HE2.out]; exact HR5.out⟩
    · obtain ⟨d, hd⟩ : ∃ d, d = i - j := ⟨_, rfl⟩
      have e5 : (i : Int) - (j : Int) = (d : Int) := by omega
      have hne : ¬ ((i : Int) = (j : Int)) := by omega
      have hne2 : ¬ (i = j) := by omega
      have hpq : p + j ≤ m := by omega
      have hE2 : rot (swr f' p m j) (m - d) m (m + j) = rot f a m b := by rw [hp, hd, rot_left f' m i j him hgt]; exact hE.out
      have HE2 := hid hE2
      have hd0 : 0 < d := by omega
      have hdn : d ≤ m := by omega
      have hdj : d < i := by omega
      clear hE2 hE hp hd
      go_wp2_with (go_at_call 74; refine (swapRange_any hR.out p m j hpq hjn hn cv).mono ?_; rintro e w5 ⟨rfl, hR5⟩; have HR5 := hid hR5; clear hR5)
      go_roundw
      case rel => exact ⟨d, j, swr f' p m j, by go_num, by go_num, hd0, hj, hdn, hjn, HR5.out, HE2.out⟩
      case measure => simp [intOf]; omega
end Go.Proofs.Ytmaadeeocppkfaa
