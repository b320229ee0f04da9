/-
  Contracts of package lexiphanebook over lists of numbers: are two alike, the marks.
-/
import Derived.Test.YtchbjokcnpcgcaaInts
import Derived.Test.YtchbjokcnpcgcaaRows
import Derived.Test.YtchbjokcnpcgcaaTexts
import Derived.Test.YtchbjokcnpcgcaaSlices
import Derived.Test.YtchbjokcnpcgcaaStrs
import Derived.WalkKit
import Derived.ProofKit
import Derived.OpenShut
import Derived.Below
import Derived.Deep.QuietTactic
import Derived.BigQuiet
import Derived.WalkSmall
import Derived.Handy
import Derived.RegionTactic
import Derived.Deep.OwnRows
import Derived.Laws.Concat
import Derived.Laws.BytesArg
import Derived.Deep.RegionWith
import Derived.Deep.RegionLaw
import Derived.Deep.RegionHeldLaw
import Derived.BigRegion
namespace Go.Proofs.Ytchbjokcnpcgcaa
open Go.ChangeShapes Go.WideShapes Go.ChangeAt Go.RowKit

set_option maxRecDepth 20000 in
set_option maxHeartbeats 2000000 in
theorem sameInts_any {w : World} {v u : Value} {xs ys : List Int} (hv : Reads w v (nats xs)) (hu : Reads w u (nats ys)) (hx : xs.length ≤ 1000000) (hy : ys.length ≤ 1000000) :
    Calls Try.prog 26 #[v, u] w fun e w' => e = .returned (.bool (decide (xs = ys))) ∧ Below w.heap.size w w' := by
  obtain ⟨a, ca, rfl, ha⟩ := hv
  obtain ⟨b, cb, rfl, hb⟩ := hu
  rw [nats_length] at *
  rw [nats_length] at *
  have HA := hid ha
  have HB := hid hb
  clear ha hb
  by_cases hl : xs.length = ys.length
  · have HL : Hid (xs.length = ys.length) := hl
    clear hl
    generalize hm : ys.length = m at HL HB hy
    have hm1 : xs.length = m := HL.out
    rw [hm1] at HA hx ⊢
    clear hm1
    go_enter Try.func26, Try.ntmps26
    go_wp2
    go_loopw [5] (fun vi wr => ∃ i : Nat, vi = .int .i64 i ∧ i ≤ m ∧ Hid (xs.take i = ys.take i) ∧ Below w.heap.size w wr) (fun vi _ => m - (intOf vi).toNat)
    case atStart => exact ⟨0, rfl, by omega, rfl, Below.refl _ _⟩
    case round =>
      obtain ⟨i, rfl, hi, he, hbl⟩ := hrel
      by_cases hlt : i < m
      · rcases HA.out with h | ⟨gb, o, rfl, hgb, hcell⟩
        · omega
        rcases HB.out with h | ⟨gc, p, rfl, hgc, hcell2⟩
        · omega
        have hcb : wr.cell? ⟨gb, o + i, none⟩ = some (.int .i64 (xs[i]'(by rw [HL.out]; exact hlt))) := by rw [hbl.cell (p := ⟨gb, o + i, none⟩) hgb, hcell i hlt, nats_at]
        have hcc : wr.cell? ⟨gc, p + i, none⟩ = some (.int .i64 (ys[i]'(by rw [hm]; exact hlt))) := by rw [hbl.cell (p := ⟨gc, p + i, none⟩) hgc, hcell2 i hlt, nats_at]
        clear hcell hcell2
        generalize hxi : xs[i]'(by rw [HL.out]; exact hlt) = x at hcb
        generalize hyi : ys[i]'(by rw [hm]; exact hlt) = y at hcc
        have HX := hid hxi
        have HY := hid hyi
        clear hxi hyi
        have hx' : (decide ((0 : Int) ≤ (i : Int) ∧ (i : Int) < (m : Int))) = true := decide_eq_true ⟨by omega, by omega⟩
        by_cases hxy : x = y
        · have hxb : (x == y) = true := by rw [hxy]; simp
          have hxn : (x != y) = false := by rw [bne, hxb]; rfl
          have HXY := hid hxy
          clear hxy
          go_wp2
          go_region
          all_goals go_wp2
          all_goals go_roundw
          case rel => exact ⟨i + 1, by go_num, by omega, by show _ = _; rw [List.take_succ_eq_append_getElem (by rw [HL.out]; exact hlt), List.take_succ_eq_append_getElem (by rw [hm]; exact hlt), HX.out, HY.out, HXY.out, he.out], by first | exact hbl.drew | exact hbl⟩
          case measure => simp [intOf]; omega
        · have hxb : (x == y) = false := beq_false_of_ne hxy
          have hxn : (x != y) = true := by rw [bne, hxb]; rfl
          have hne : decide (xs = ys) = false := decide_eq_false (by rintro rfl; exact hxy (HX.out.symm.trans HY.out))
          go_wp2
          go_region
          all_goals go_wp2
          all_goals go_ret
          all_goals exact ⟨by first | (rw [hne]; done) | (rw [hne]; rfl), by first | exact hbl.drew | exact hbl⟩
      · have he1 := he.out
        obtain rfl : i = m := by omega
        rw [List.take_of_length_le (by rw [HL.out]; exact Nat.le_refl _), List.take_of_length_le (by rw [hm]; exact Nat.le_refl _)] at he1
        have heq : decide (xs = ys) = true := decide_eq_true he1
        clear he1
        go_wp2
        go_ret
        exact ⟨by first | (rw [heq]; done) | (rw [heq]; rfl), hbl⟩
  · go_enter Try.func26, Try.ntmps26
    have hl1 : ((xs.length : Int) == (ys.length : Int)) = false := beq_false_of_ne (by omega)
    have hl2 : ((xs.length : Int) != (ys.length : Int)) = true := by rw [bne, hl1]; rfl
    clear hl1
    have hne : decide (xs = ys) = false := decide_eq_false (by rintro rfl; exact hl rfl)
    go_wp2
    all_goals go_ret
    all_goals exact ⟨by first | (rw [hne]; done) | (rw [hne]; rfl), Below.refl _ _⟩

/-- A mark. -/
def imark (i k : Nat) : Int := -1000000 * (i : Int) - (k : Int) - 7

/-- The marks of list i from a place on. -/
def marksI (i k n : Nat) : List Int := (List.range' k n).map (imark i)
theorem marksI_length (i k n : Nat) : (marksI i k n).length = n := by simp [marksI]
theorem marksI_snoc (i k n : Nat) : marksI i k n ++ [imark i (k + n)] = marksI i k (n + 1) := by
  rw [marksI, marksI, List.range'_concat, List.map_append]
  simp
theorem marksI_append (i k n m : Nat) : marksI i k n ++ marksI i (k + n) m = marksI i k (n + m) := by
  rw [marksI, marksI, marksI, ← List.map_append, List.range'_append_1]

end Go.Proofs.Ytchbjokcnpcgcaa
