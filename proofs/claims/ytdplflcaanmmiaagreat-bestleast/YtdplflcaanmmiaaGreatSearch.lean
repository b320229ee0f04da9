/-
  Contracts of package slices at bytes: BinarySearch of a rising list.
-/
import Derived.Test.YtdplflcaanmmiaaGreatBase
import Derived.Test.YtdplflcaanmmiaaGreatMath
import Derived.Deep.LoopGhost
import Derived.Deep.Draws
namespace Go.Proofs.YtdplflcaanmmiaaGreat
open Go.ChangeShapes Go.WideShapes Go.ChangeAt Go.RowKit

theorem cmpNaN_any (x : Nat) (w : World) : Calls Tryz.prog 137 #[.int .u8 (x : Int)] w fun e w' => e = .returned (.bool false) ∧ w' = w := by
  go_enter Tryz.func137, Tryz.ntmps137
  go_wp2
  go_ret
  exact ⟨by simp, rfl⟩

theorem slicesNaN_any (x : Nat) (w : World) : Calls Tryz.prog 131 #[.int .u8 (x : Int)] w fun e w' => e = .returned (.bool false) ∧ w' = w := by
  go_enter Tryz.func131, Tryz.ntmps131
  go_wp2
  go_ret
  exact ⟨by simp, rfl⟩

theorem less_any (x y : Nat) (w : World) : Calls Tryz.prog 130 #[.int .u8 (x : Int), .int .u8 (y : Int)] w fun e w' => e = .returned (.bool (decide (x < y))) ∧ w' = w := by
  go_enter Tryz.func130, Tryz.ntmps130
  go_wp2_with (go_at_call 137; refine (cmpNaN_any _ _).mono ?_; rintro e w' ⟨rfl, rfl⟩)
  go_ret
  exact ⟨by simp, rfl⟩

set_option maxRecDepth 20000 in
set_option maxHeartbeats 4000000 in
/-- Of a rising list: how many are less, and whether it is among them. -/
theorem search_any {w : World} {v : Value} {zs : List Nat} (hv : Reads w v (octs zs)) (hr : zs.Pairwise (· < ·)) (hl : zs.length ≤ 1000000) (x : Nat) :
    Calls Tryz.prog 124 #[v, .int .u8 (x : Int)] w fun e w' => e = .returned (.tuple #[.int .i64 ((zs.countP (· < x) : Nat) : Int), .bool (zs.contains x)]) ∧ ∃ q, w' = w.drewN q := by
  obtain ⟨a, ca, rfl, ha⟩ := hv
  rw [octs_length] at *
  have HA := hid ha
  have HR := hid hr
  clear ha hr
  generalize hn : zs.length = n at HA hl
  have HN := hid hn
  clear hn
  go_enter Tryz.func124, Tryz.ntmps124
  go_wp2
  go_loopg [7, 8] n (fun g s7 s8 wr => ∃ lo hi q : Nat, s7 = .int .i64 lo ∧ s8 = .int .i64 hi ∧ lo ≤ hi ∧ hi ≤ n ∧ hi - lo ≤ g ∧ wr = w.drewN q ∧ Hid ((∀ t, t < lo → zs.getD t 0 < x) ∧ (∀ t, hi ≤ t → t < n → x ≤ zs.getD t 0)))
  case atStart => exact ⟨0, n, 0, rfl, rfl, Nat.zero_le _, Nat.le_refl _, by omega, rfl, fun t ht => absurd ht (Nat.not_lt_zero _), fun t h1 h2 => by omega⟩
  case round =>
    obtain ⟨lo, hi, q, rfl, rfl, hlh, hin, hg, rfl, I⟩ := hrel
    by_cases hlt : lo < hi
    · rcases HA.out with h | ⟨gb, o, rfl, hgb, hcell⟩
      · omega
      have cm : w.cell? ⟨gb, o + (lo + hi) / 2, none⟩ = some (.int .u8 ((zs.getD ((lo + hi) / 2) 0 : Nat) : Int)) := by
        rw [hcell _ (by omega), octs, List.getElem?_map, List.getElem?_eq_getElem (by rw [HN.out]; omega), getD_at _ _ (by rw [HN.out]; omega)]
        rfl
      clear hcell
      generalize hy : zs.getD ((lo + hi) / 2) 0 = y at cm
      have Y := hid hy
      clear hy
      have S : Hid (∀ a b, a ≤ b → b < n → zs.getD a 0 ≤ zs.getD b 0) := fun a b hab hb => by
        rw [getD_at _ _ (by rw [HN.out]; omega), getD_at _ _ (by rw [HN.out]; omega)]
        rcases Nat.eq_or_lt_of_le hab with rfl | hl2
        · exact Nat.le_refl _
        · exact Nat.le_of_lt (List.pairwise_iff_getElem.1 HR.out a b (by rw [HN.out]; omega) (by rw [HN.out]; omega) hl2)
      by_cases hyx : y < x
      · go_wp2_with (first | (go_at_call 130; refine (less_any _ _ _).mono ?_; rintro e w' ⟨rfl, rfl⟩) | (go_at_call 131; refine (slicesNaN_any _ _).mono ?_; rintro e w' ⟨rfl, rfl⟩))
        go_roundg (hi - ((lo + hi) / 2 + 1))
        case measure => omega
        case rel =>
          refine ⟨(lo + hi) / 2 + 1, hi, _, by rw [show ((lo : Int) + (hi : Int)) / 2 + 1 = (((lo + hi) / 2 + 1 : Nat) : Int) by omega], rfl, by omega, hin, Nat.le_refl _, rfl, fun t ht => ?_, I.out.2⟩
          have := S.out t ((lo + hi) / 2) (by omega) (by omega)
          rw [Y.out] at this
          omega
      · go_wp2_with (first | (go_at_call 130; refine (less_any _ _ _).mono ?_; rintro e w' ⟨rfl, rfl⟩) | (go_at_call 131; refine (slicesNaN_any _ _).mono ?_; rintro e w' ⟨rfl, rfl⟩))
        go_roundg ((lo + hi) / 2 - lo)
        case measure => omega
        case rel =>
          refine ⟨lo, (lo + hi) / 2, _, rfl, by rw [show ((lo : Int) + (hi : Int)) / 2 = (((lo + hi) / 2 : Nat) : Int) by omega], by omega, by omega, Nat.le_refl _, rfl, I.out.1, fun t ht htn => ?_⟩
          have := S.out ((lo + hi) / 2) t ht htn
          rw [Y.out] at this
          omega
    · obtain rfl : hi = lo := by omega
      have E : Hid (zs.countP (· < x) = hi ∧ zs.contains x = decide (hi < n ∧ zs.getD hi 0 = x)) := by
        have := search_done zs HR.out hi x (by rw [HN.out]; exact hin) I.out.1 (by rw [HN.out]; exact I.out.2)
        rw [HN.out] at this
        exact this
      by_cases hn : hi < n
      · rcases HA.out with h | ⟨gb, o, rfl, hgb, hcell⟩
        · omega
        have cm : w.cell? ⟨gb, o + hi, none⟩ = some (.int .u8 ((zs.getD hi 0 : Nat) : Int)) := by
          rw [hcell _ (by omega), octs, List.getElem?_map, List.getElem?_eq_getElem (by rw [HN.out]; omega), getD_at _ _ (by rw [HN.out]; omega)]
          rfl
        clear hcell
        generalize hy : zs.getD hi 0 = y at cm
        have Y := hid hy
        clear hy
        by_cases hyx : y = x
        · go_wp2_with (first | (go_at_call 130; refine (less_any _ _ _).mono ?_; rintro e w' ⟨rfl, rfl⟩) | (go_at_call 131; refine (slicesNaN_any _ _).mono ?_; rintro e w' ⟨rfl, rfl⟩))
          go_ret2
          refine ⟨?_, _, rfl⟩
          rw [E.out.1, E.out.2, Y.out, decide_eq_true (show hi < n ∧ y = x from ⟨hn, hyx⟩)]
          first | rfl | simp [*]
        · go_wp2_with (first | (go_at_call 130; refine (less_any _ _ _).mono ?_; rintro e w' ⟨rfl, rfl⟩) | (go_at_call 131; refine (slicesNaN_any _ _).mono ?_; rintro e w' ⟨rfl, rfl⟩))
          go_ret2
          refine ⟨?_, _, rfl⟩
          rw [E.out.1, E.out.2, Y.out, decide_eq_false (show ¬ (hi < n ∧ y = x) from fun h => hyx h.2)]
          first | rfl | simp [*]
      · go_wp2_with (first | (go_at_call 130; refine (less_any _ _ _).mono ?_; rintro e w' ⟨rfl, rfl⟩) | (go_at_call 131; refine (slicesNaN_any _ _).mono ?_; rintro e w' ⟨rfl, rfl⟩))
        go_ret2
        refine ⟨?_, _, rfl⟩
        rw [E.out.1, E.out.2, decide_eq_false (show ¬ (hi < n ∧ zs.getD hi 0 = x) from fun h => hn h.1)]
        first | rfl | simp [*]
end Go.Proofs.YtdplflcaanmmiaaGreat
