/-
  Contracts of package lexiphanebook over lists of texts: are two alike, a copy, the marks.
-/
import Derived.Test.YtgmfjgiakgoofaaRows
import Derived.Test.YtgmfjgiakgoofaaTexts
import Derived.Test.YtgmfjgiakgoofaaSlices
import Derived.Test.YtgmfjgiakgoofaaStrs
import Derived.WalkKit
import Derived.ProofKit
import Derived.OpenShut
import Derived.Below
import Derived.Deep.QuietTactic
import Derived.BigQuiet
import Derived.WalkSmall
import Derived.Handy
import Derived.RegionTactic
import Derived.Deep.OwnRows
import Derived.Laws.Concat
import Derived.Laws.BytesArg
import Derived.Deep.RegionWith
import Derived.Deep.RegionLaw
import Derived.Deep.RegionHeldLaw
import Derived.BigRegion
namespace Go.Proofs.Ytgmfjgiakgoofaa
open Go.ChangeShapes Go.WideShapes Go.ChangeAt Go.RowKit

/-- A new row of bytes as a text. -/
theorem conv_new (w : World) (xs : List Nat) (c : Array Value) (hc : c = (xs.map fun x : Nat => Value.int .u8 (x : Int)).toArray) (n : Nat) (hn : xs.length = n) :
    (convert 61 9 (.slice (some ⟨w.heap.size, 0, none⟩) n n)).run Try.prog (w.alloc (.cells c 5)) = .ok (.string (bytesOf xs)) (w.alloc (.cells c 5)) := by
  rw [run_convert_bytes_arg (P := Try.prog) (w.alloc (.cells c 5)) 61 5 Try.underlying61 Try.underlying5 w.heap.size 0 n n (xs.map fun x : Nat => (x : Int)) (by rw [List.length_map, hn]) (fun i hi => by
    have hh : (w.alloc (.cells c 5)).heap[w.heap.size]? = some (.cells c 5 (0, 0)) := heap_alloc_new w _
    rw [Nat.zero_add, cell_of_row _ _ _ _ _ _ hh, hc]
    simp [List.getElem?_eq_getElem (show i < xs.length by omega)]) 9 Try.underlying9, bytesOf_strs]

set_option maxRecDepth 20000 in
set_option maxHeartbeats 2000000 in
theorem sameTexts_any {w : World} {v u : Value} {xs ys : List ByteArray} (hv : Reads w v (strs xs)) (hu : Reads w u (strs ys)) (hx : xs.length ≤ 1000000) (hy : ys.length ≤ 1000000) :
    Calls Try.prog 39 #[v, u] w fun e w' => e = .returned (.bool (decide (xs = ys))) ∧ Below w.heap.size w w' := by
  obtain ⟨a, ca, rfl, ha⟩ := hv
  obtain ⟨b, cb, rfl, hb⟩ := hu
  rw [strs_length] at *
  rw [strs_length] at *
  have HA := hid ha
  have HB := hid hb
  clear ha hb
  by_cases hl : xs.length = ys.length
  · have HL : Hid (xs.length = ys.length) := hl
    clear hl
    generalize hm : ys.length = m at HL HB hy
    have hm1 : xs.length = m := HL.out
    rw [hm1] at HA hx ⊢
    clear hm1
    go_enter Try.func39, Try.ntmps39
    go_wp2
    go_loopw [5] (fun vi wr => ∃ i : Nat, vi = .int .i64 i ∧ i ≤ m ∧ Hid (xs.take i = ys.take i) ∧ Below w.heap.size w wr) (fun vi _ => m - (intOf vi).toNat)
    case atStart => exact ⟨0, rfl, by omega, rfl, Below.refl _ _⟩
    case round =>
      obtain ⟨i, rfl, hi, he, hbl⟩ := hrel
      by_cases hlt : i < m
      · rcases HA.out with h | ⟨gb, o, rfl, hgb, hcell⟩
        · omega
        rcases HB.out with h | ⟨gc, p, rfl, hgc, hcell2⟩
        · omega
        have hcb : wr.cell? ⟨gb, o + i, none⟩ = some (.string (xs[i]'(by rw [HL.out]; exact hlt))) := by rw [hbl.cell (p := ⟨gb, o + i, none⟩) hgb, hcell i hlt, strs_at]
        have hcc : wr.cell? ⟨gc, p + i, none⟩ = some (.string (ys[i]'(by rw [hm]; exact hlt))) := by rw [hbl.cell (p := ⟨gc, p + i, none⟩) hgc, hcell2 i hlt, strs_at]
        clear hcell hcell2
        generalize hxi : xs[i]'(by rw [HL.out]; exact hlt) = x at hcb
        generalize hyi : ys[i]'(by rw [hm]; exact hlt) = y at hcc
        have HX := hid hxi
        have HY := hid hyi
        clear hxi hyi
        have hx' : (decide ((0 : Int) ≤ (i : Int) ∧ (i : Int) < (m : Int))) = true := decide_eq_true ⟨by omega, by omega⟩
        by_cases hxy : x = y
        · have hxb := text_eq hxy
          have HXY := hid hxy
          clear hxy
          go_wp2
          go_region
          all_goals go_wp2
          all_goals go_roundw
          case rel => exact ⟨i + 1, by go_num, by omega, by show _ = _; rw [List.take_succ_eq_append_getElem (by rw [HL.out]; exact hlt), List.take_succ_eq_append_getElem (by rw [hm]; exact hlt), HX.out, HY.out, HXY.out, he.out], by first | exact hbl.drew | exact hbl⟩
          case measure => simp [intOf]; omega
        · have hxb := text_ne hxy
          have hne : decide (xs = ys) = false := decide_eq_false (by rintro rfl; exact hxy (HX.out.symm.trans HY.out))
          go_wp2
          go_region
          all_goals go_wp2
          all_goals go_ret
          all_goals exact ⟨by first | (rw [hne]; done) | (rw [hne]; rfl), by first | exact hbl.drew | exact hbl⟩
      · have he1 := he.out
        obtain rfl : i = m := by omega
        rw [List.take_of_length_le (by rw [HL.out]; exact Nat.le_refl _), List.take_of_length_le (by rw [hm]; exact Nat.le_refl _)] at he1
        have heq : decide (xs = ys) = true := decide_eq_true he1
        clear he1
        go_wp2
        go_ret
        exact ⟨by first | (rw [heq]; done) | (rw [heq]; rfl), hbl⟩
  · go_enter Try.func39, Try.ntmps39
    have hl1 : ((xs.length : Int) == (ys.length : Int)) = false := beq_false_of_ne (by omega)
    have hl2 : ((xs.length : Int) != (ys.length : Int)) = true := by rw [bne, hl1]; rfl
    clear hl1
    have hne : decide (xs = ys) = false := decide_eq_false (by rintro rfl; exact hl rfl)
    go_wp2
    all_goals go_ret
    all_goals exact ⟨by first | (rw [hne]; done) | (rw [hne]; rfl), Below.refl _ _⟩

/-- A mark's text. -/
def mname (i k : Nat) : ByteArray := bytesOf [109, 65 + i % 26, 65 + i / 26 % 26, 48 + k % 10, 48 + k / 10 % 10, 48 + k / 100 % 10]

set_option maxRecDepth 20000 in
set_option maxHeartbeats 2000000 in
theorem name_any (i k : Nat) (hi : i ≤ 100000) (hk : k ≤ 1000000) (w : World) :
    Calls Try.prog 48 #[.int .i64 i, .int .i64 k] w fun e w' => e = .returned (.string (mname i k)) ∧ Below w.heap.size w w' := by
  have hcv : ∀ w : World, (convert 61 9 (.slice (some ⟨w.heap.size, 0, none⟩) 6 6)).run Try.prog (w.alloc (.cells #[.int .u8 109, .int .u8 (65 + (i : Int) % 26), .int .u8 (65 + (i : Int) / 26 % 26), .int .u8 (48 + (k : Int) % 10), .int .u8 (48 + (k : Int) / 10 % 10), .int .u8 (48 + (k : Int) / 100 % 10)] 5)) = .ok (.string (mname i k)) (w.alloc (.cells #[.int .u8 109, .int .u8 (65 + (i : Int) % 26), .int .u8 (65 + (i : Int) / 26 % 26), .int .u8 (48 + (k : Int) % 10), .int .u8 (48 + (k : Int) / 10 % 10), .int .u8 (48 + (k : Int) / 100 % 10)] 5)) := fun w =>
    conv_new w [109, 65 + i % 26, 65 + i / 26 % 26, 48 + k % 10, 48 + k / 10 % 10, 48 + k / 100 % 10] _ (by simp) 6 rfl
  go_enter Try.func48, Try.ntmps48
  go_wp2
  go_ret
  exact ⟨rfl, (Below.refl _ _).alloc (Nat.le_refl _) _⟩


/-- The marks of list i from a place on. -/
def marksT (i k n : Nat) : List ByteArray := (List.range' k n).map (mname i)
theorem marksT_length (i k n : Nat) : (marksT i k n).length = n := by simp [marksT]
theorem marksT_snoc (i k n : Nat) : marksT i k n ++ [mname i (k + n)] = marksT i k (n + 1) := by
  rw [marksT, marksT, List.range'_concat, List.map_append]
  simp
theorem marksT_append (i k n m : Nat) : marksT i k n ++ marksT i (k + n) m = marksT i k (n + m) := by
  rw [marksT, marksT, marksT, ← List.map_append, List.range'_append_1]


set_option maxRecDepth 20000 in
set_option maxHeartbeats 2000000 in
theorem markTexts_any (i k n : Nat) (hi : i ≤ 100000) (hk : k ≤ 100000) (hn : n ≤ 100000) (w : World) :
    Calls Try.prog 44 #[.int .i64 i, .int .i64 k, .int .i64 n] w fun e w' => ∃ v', e = .returned v' ∧ w'.ownsRow w.heap.size 9 1 v' n (strs (marksT i k n)) ∧ Below w.heap.size w w' := by
  obtain ⟨i0, hi0, hz0, hz1, hz2⟩ := info_parts Try.infoStr
  go_enter Try.func44, Try.ntmps44
  go_wp2
  go_loopw [7, 8] (fun u vj wr => ∃ j q : Nat, vj = .int .i64 q ∧ Hid (q = k + j) ∧ q ≤ k + n ∧ j ≤ n ∧ wr.ownsRow w.heap.size 9 1 u j (strs (marksT i k j)) ∧ Below w.heap.size w wr) (fun _ vj _ => (k + n) - (intOf vj).toNat)
  case atStart => exact ⟨0, k, rfl, rfl, by omega, by omega, World.ownsRow_nil _ _ _ _, Below.refl _ _⟩
  case round =>
    obtain ⟨j, q, rfl, HQ, hqk, hj, hown, hbl⟩ := hrel
    have hz := hbl.size
    by_cases hlt : j < n
    · have hqn : q < k + n := by have := HQ.out; omega
      have hq2 : q ≤ 1000000 := by omega
      go_wp2_with (first
        | (go_at_call 48; refine (name_any i q hi hq2 _).mono ?_; rintro e w3 ⟨rfl, hb3⟩; have hown3 := ownsRow_below hown hb3; have hz3 := hb3.size)
        | (at_builtin; refine wpList_append_reads _ rfl (.tmp 17) (.tmp 21) 55 rfl w.heap.size 9 i0 (.string ⟨#[]⟩) 16 Try.underlying55 hi0 hz0 hz1 hz2 rfl u7 j (strs (marksT i k j)) rfl (hown3.alloc _) _ [.string (mname i q)] rfl (reads_built w3 #[.string (mname i q)] _ 1 rfl) (by intro u hu; simp at hu; subst hu; rfl) (by unfold maxLen; simp; omega) (by simp; omega) (by simp; omega) ?_; intro v' w4 hown4 hgrow hat hold))
      have hbl3 : Below w.heap.size w w3 := below_more hbl hb3
      have hbl4 : Below w.heap.size w w4 := (hbl3.alloc hbl3.size _).grown hgrow (by have := hbl3.size; simp; omega) (fun g hg => (hown3.lt g hg).1)
      go_roundw
      case rel =>
        refine ⟨j + 1, q + 1, by go_num, by show _ = _; rw [HQ.out]; omega, by omega, by omega, ?_, hbl4⟩
        rw [← marksT_snoc, ← strs_append, ← HQ.out]; exact hown4
      case measure => simp [intOf]; omega
    · obtain rfl : j = n := by omega
      have hqn : k + j ≤ q := by have := HQ.out; omega
      go_wp2
      go_ret
      exact ⟨_, rfl, hown, hbl⟩
end Go.Proofs.Ytgmfjgiakgoofaa
