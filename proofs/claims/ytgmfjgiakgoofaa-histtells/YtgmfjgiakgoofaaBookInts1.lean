/-
  Contracts of package lexiphanebook over lists of numbers: are two alike, the marks.
-/
import Derived.Test.YtgmfjgiakgoofaaInts
import Derived.Test.YtgmfjgiakgoofaaRows
import Derived.Test.YtgmfjgiakgoofaaTexts
import Derived.Test.YtgmfjgiakgoofaaSlices
import Derived.Test.YtgmfjgiakgoofaaStrs
import Derived.WalkKit
import Derived.ProofKit
import Derived.OpenShut
import Derived.Below
import Derived.Deep.QuietTactic
import Derived.BigQuiet
import Derived.WalkSmall
import Derived.Handy
import Derived.RegionTactic
import Derived.Deep.OwnRows
import Derived.Laws.Concat
import Derived.Laws.BytesArg
import Derived.Deep.RegionWith
import Derived.Deep.RegionLaw
import Derived.Deep.RegionHeldLaw
import Derived.BigRegion
namespace Go.Proofs.Ytgmfjgiakgoofaa
open Go.ChangeShapes Go.WideShapes Go.ChangeAt Go.RowKit

set_option maxRecDepth 20000 in
set_option maxHeartbeats 2000000 in
theorem sameInts_any {w : World} {v u : Value} {xs ys : List Int} (hv : Reads w v (nats xs)) (hu : Reads w u (nats ys)) (hx : xs.length ≤ 1000000) (hy : ys.length ≤ 1000000) :
    Calls Try.prog 12 #[v, u] w fun e w' => e = .returned (.bool (decide (xs = ys))) ∧ Below w.heap.size w w' := by
  obtain ⟨a, ca, rfl, ha⟩ := hv
  obtain ⟨b, cb, rfl, hb⟩ := hu
  rw [nats_length] at *
  rw [nats_length] at *
  have HA := hid ha
  have HB := hid hb
  clear ha hb
  by_cases hl : xs.length = ys.length
  · have HL : Hid (xs.length = ys.length) := hl
    clear hl
    generalize hm : ys.length = m at HL HB hy
    have hm1 : xs.length = m := HL.out
    rw [hm1] at HA hx ⊢
    clear hm1
    go_enter Try.func12, Try.ntmps12
    go_wp2
    go_loopw [5] (fun vi wr => ∃ i : Nat, vi = .int .i64 i ∧ i ≤ m ∧ Hid (xs.take i = ys.take i) ∧ Below w.heap.size w wr) (fun vi _ => m - (intOf vi).toNat)
    case atStart => exact ⟨0, rfl, by omega, rfl, Below.refl _ _⟩
    case round =>
      obtain ⟨i, rfl, hi, he, hbl⟩ := hrel
      by_cases hlt : i < m
      · rcases HA.out with h | ⟨gb, o, rfl, hgb, hcell⟩
        · omega
        rcases HB.out with h | ⟨gc, p, rfl, hgc, hcell2⟩
        · omega
        have hcb : wr.cell? ⟨gb, o + i, none⟩ = some (.int .i64 (xs[i]'(by rw [HL.out]; exact hlt))) := by rw [hbl.cell (p := ⟨gb, o + i, none⟩) hgb, hcell i hlt, nats_at]
        have hcc : wr.cell? ⟨gc, p + i, none⟩ = some (.int .i64 (ys[i]'(by rw [hm]; exact hlt))) := by rw [hbl.cell (p := ⟨gc, p + i, none⟩) hgc, hcell2 i hlt, nats_at]
        clear hcell hcell2
        generalize hxi : xs[i]'(by rw [HL.out]; exact hlt) = x at hcb
        generalize hyi : ys[i]'(by rw [hm]; exact hlt) = y at hcc
        have HX := hid hxi
        have HY := hid hyi
        clear hxi hyi
        have hx' : (decide ((0 : Int) ≤ (i : Int) ∧ (i : Int) < (m : Int))) = true := decide_eq_true ⟨by omega, by omega⟩
        by_cases hxy : x = y
        · have hxb : (x == y) = true := by rw [hxy]; simp
          have hxn : (x != y) = false := by rw [bne, hxb]; rfl
          have HXY := hid hxy
          clear hxy
          go_wp2
          go_region
          all_goals go_wp2
          all_goals go_roundw
          case rel => exact ⟨i + 1, by go_num, by omega, by show _ = _; rw [List.take_succ_eq_append_getElem (by rw [HL.out]; exact hlt), List.take_succ_eq_append_getElem (by rw [hm]; exact hlt), HX.out, HY.out, HXY.out, he.out], by first | exact hbl.drew | exact hbl⟩
          case measure => simp [intOf]; omega
        · have hxb : (x == y) = false := beq_false_of_ne hxy
          have hxn : (x != y) = true := by rw [bne, hxb]; rfl
          have hne : decide (xs = ys) = false := decide_eq_false (by rintro rfl; exact hxy (HX.out.symm.trans HY.out))
          go_wp2
          go_region
          all_goals go_wp2
          all_goals go_ret
          all_goals exact ⟨by first | (rw [hne]; done) | (rw [hne]; rfl), by first | exact hbl.drew | exact hbl⟩
      · have he1 := he.out
        obtain rfl : i = m := by omega
        rw [List.take_of_length_le (by rw [HL.out]; exact Nat.le_refl _), List.take_of_length_le (by rw [hm]; exact Nat.le_refl _)] at he1
        have heq : decide (xs = ys) = true := decide_eq_true he1
        clear he1
        go_wp2
        go_ret
        exact ⟨by first | (rw [heq]; done) | (rw [heq]; rfl), hbl⟩
  · go_enter Try.func12, Try.ntmps12
    have hl1 : ((xs.length : Int) == (ys.length : Int)) = false := beq_false_of_ne (by omega)
    have hl2 : ((xs.length : Int) != (ys.length : Int)) = true := by rw [bne, hl1]; rfl
    clear hl1
    have hne : decide (xs = ys) = false := decide_eq_false (by rintro rfl; exact hl rfl)
    go_wp2
    all_goals go_ret
    all_goals exact ⟨by first | (rw [hne]; done) | (rw [hne]; rfl), Below.refl _ _⟩

/-- A mark. -/
def imark (i k : Nat) : Int := -1000000 * (i : Int) - (k : Int) - 7

/-- The marks of list i from a place on. -/
def marksI (i k n : Nat) : List Int := (List.range' k n).map (imark i)
theorem marksI_length (i k n : Nat) : (marksI i k n).length = n := by simp [marksI]
theorem marksI_snoc (i k n : Nat) : marksI i k n ++ [imark i (k + n)] = marksI i k (n + 1) := by
  rw [marksI, marksI, List.range'_concat, List.map_append]
  simp
theorem marksI_append (i k n m : Nat) : marksI i k n ++ marksI i (k + n) m = marksI i k (n + m) := by
  rw [marksI, marksI, marksI, ← List.map_append, List.range'_append_1]

set_option maxRecDepth 20000 in
set_option maxHeartbeats 2000000 in
theorem markInts_any (i k n : Nat) (hi : i ≤ 100000) (hk : k ≤ 100000) (hn : n ≤ 100000) (w : World) :
    Calls Try.prog 43 #[.int .i64 i, .int .i64 k, .int .i64 n] w fun e w' => ∃ v', e = .returned v' ∧ w'.ownsRow w.heap.size 3 1 v' n (nats (marksI i k n)) ∧ Below w.heap.size w w' := by
  obtain ⟨i0, hi0, hz0, hz1, hz2⟩ := info_parts Try.infoInt
  go_enter Try.func43, Try.ntmps43
  go_wp2
  go_loopw [7, 8] (fun u vj wr => ∃ j q : Nat, vj = .int .i64 q ∧ Hid (q = k + j) ∧ q ≤ k + n ∧ j ≤ n ∧ wr.ownsRow w.heap.size 3 1 u j (nats (marksI i k j)) ∧ Below w.heap.size w wr) (fun _ vj _ => (k + n) - (intOf vj).toNat)
  case atStart => exact ⟨0, k, rfl, rfl, by omega, by omega, World.ownsRow_nil _ _ _ _, Below.refl _ _⟩
  case round =>
    obtain ⟨j, q, rfl, HQ, hqk, hj, hown, hbl⟩ := hrel
    have hz := hbl.size
    by_cases hlt : j < n
    · have hqn : q < k + n := by have := HQ.out; omega
      have hq2 : q ≤ 1000000 := by omega
      have hbm : -1000000 * (i : Int) - (q : Int) - 7 = imark i q := rfl
      generalize hbq : imark i q = bq at hbm
      have HBQ := hid hbq
      clear hbq
      go_wp2_with (first
        | (at_builtin; refine wpList_append_reads _ rfl (.tmp 17) (.tmp 23) 22 rfl w.heap.size 3 i0 (.int .i64 0) 8 Try.underlying22 hi0 hz0 hz1 hz2 rfl u7 j (nats (marksI i k j)) rfl (hown.alloc _) _ [.int .i64 bq] rfl (reads_built wr #[.int .i64 bq] _ 1 rfl) (by intro u hu; simp at hu; subst hu; rfl) (by unfold maxLen; simp; omega) (by simp; omega) (by simp; omega) ?_; intro v' w4 hown4 hgrow hat hold))
      have hbl4 : Below w.heap.size w w4 := (hbl.alloc hbl.size _).grown hgrow (by have := hbl.size; simp; omega) (fun g hg => (hown.lt g hg).1)
      go_roundw
      case rel =>
        refine ⟨j + 1, q + 1, by go_num, by show _ = _; rw [HQ.out]; omega, by omega, by omega, ?_, hbl4⟩
        rw [← marksI_snoc, ← nats_append, ← HQ.out, HBQ.out]; exact hown4
      case measure => simp [intOf]; omega
    · obtain rfl : j = n := by omega
      have hqn : k + j ≤ q := by have := HQ.out; omega
      go_wp2
      go_ret
      exact ⟨_, rfl, hown, hbl⟩
end Go.Proofs.Ytgmfjgiakgoofaa
