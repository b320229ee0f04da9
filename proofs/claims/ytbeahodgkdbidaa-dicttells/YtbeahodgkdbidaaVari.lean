/-
  Contracts of package vari: what Len, Put and Get answer, for every number and every text, and that they leave memory as it was, new blocks aside.
-/
import Derived.Test.YtbeahodgkdbidaaRows
import Derived.Test.YtbeahodgkdbidaaVariMath
import Derived.WalkKit
import Derived.ProofKit
import Derived.OpenShut
import Derived.Below
import Derived.Deep.QuietTactic
import Derived.BigQuiet
import Derived.WalkSmall
import Derived.Handy
import Derived.RegionTactic
import Derived.Deep.OwnRows
import Derived.Laws.BytesArg
import Derived.Laws.Concat
namespace Go.Proofs.Ytbeahodgkdbidaa
open Go.ChangeShapes Go.WideShapes Go.ChangeAt Go.RowKit

set_option maxRecDepth 20000 in
set_option maxHeartbeats 1000000 in
theorem len_in (n : Nat) (hn : n < 4294967296) (w : World) :
    Calls Try.prog 80 #[.int .i64 n] w fun e w' => e = .returned (.int .i64 (vlen n : Nat)) ∧ w' = w := by
  go_enter Try.func80, Try.ntmps80
  go_wp2
  go_loopw [0, 3] (fun vn vs wr => ∃ m k : Nat, vn = .int .i64 m ∧ vs = .int .i64 k ∧ m < 4294967296 ∧ k ≤ 4294967296 ∧ Hid (k + vlen m = vlen n + 1) ∧ wr = w) (fun vn _ _ => (intOf vn).toNat)
  case atStart => exact ⟨n, 1, rfl, rfl, hn, by omega, Nat.add_comm _ _, rfl⟩
  case round =>
    obtain ⟨m, k, rfl, rfl, hm, hk, he, rfl⟩ := hrel
    by_cases h : 128 ≤ m
    · go_wp2
      go_roundw
      case rel => exact ⟨m / 128, k + 1, by go_num, by go_num, by omega, by have := he.out; have := vlen_pos m; have := vlen_five n (by omega); omega, by have h1 := he.out; rw [vlen_ge m h] at h1; show k + 1 + vlen (m / 128) = vlen n + 1; omega, trivial⟩
      case measure => simp [intOf]; omega
    · go_wp2
      go_ret
      have h1 := he.out
      rw [vlen_lt m (by omega)] at h1
      obtain rfl : k = vlen n := by omega
      exact ⟨rfl, rfl⟩

theorem len_out (n : Int) (hn : n < 0 ∨ 4294967295 < n) (w : World) :
    Calls Try.prog 80 #[.int .i64 n] w fun e w' => e = .returned (.int .i64 0) ∧ w' = w := by
  rcases hn with h | h
  · go_enter Try.func80, Try.ntmps80
    go_wp2
    go_ret
    exact ⟨rfl, rfl⟩
  · have h0 : ¬ n < 0 := by omega
    go_enter Try.func80, Try.ntmps80
    go_wp2
    go_ret
    exact ⟨rfl, rfl⟩

theorem wrap_byte (c : Nat) (hc : c < 256) : wrap64 (c : Int) = (c : Int) := IntWalk.wrap64_in _ ⟨by omega, by omega⟩

theorem index_at (b : ByteArray) (i : Nat) (h : i < b.size) (w : World) : (Instr.index 9 (.string b) (.int .i64 (i : Int))).run Try.prog w = .ok (.int .u8 ((b[i]'h).toNat : Int)) w := by
  rw [run_index_string w 9 b .i64 _ Try.underlying9, dif_pos ⟨by omega, by omega⟩]
  rfl

theorem Try.infoByte : (Try.prog.info? 5).map (fun i => (i.zero, i.size, i.bytes)) = some (some (.int .u8 0), 1, 1) := by kernel_rfl

theorem put_out (n : Int) (hn : n < 0 ∨ 4294967295 < n) (w : World) :
    Calls Try.prog 66 #[.int .i64 n] w fun e w' => e = .returned (.tuple #[.string ⟨#[]⟩, .bool false]) ∧ w' = w := by
  go_enter Try.func66, Try.ntmps66
  go_wp2_with (go_at_call 80; refine (len_out n hn _).mono ?_; rintro e w1 ⟨rfl, rfl⟩)
  refine bodyPost_ret (v := .tuple #[.string ⟨#[]⟩, .bool false]) (by simp [results, Try.results66, go_sem]) rfl ⟨rfl, rfl⟩

/-- What the cells hold when i bytes are laid. -/
def laid (n i j : Nat) : Value := if j < i then .int .u8 ((n / 128 ^ j % 128 + 128 : Nat) : Int) else .int .u8 0

set_option maxRecDepth 20000 in
set_option maxHeartbeats 1000000 in
theorem put_in (n : Nat) (hn : n < 4294967296) (w : World) :
    Calls Try.prog 66 #[.int .i64 n] w fun e w' => e = .returned (.tuple #[.string (vtext n), .bool true]) ∧ Below w.heap.size w w' := by
  have h5 := vlen_five n (by omega)
  have h1 := vlen_pos n
  have hmk := run_make_row' (P := Try.prog) 68 5 (.int .u8 0) 1 Try.underlying68 Try.infoByte rfl .i64 .i64 (vlen n) (by omega) (by omega)
  go_enter Try.func66, Try.ntmps66
  go_wp2_with (go_at_call 80; refine (len_in n hn _).mono ?_; rintro e w1 ⟨rfl, rfl⟩)
  go_loopw [0, 15] (fun vm vi wr => ∃ m i : Nat, vm = .int .i64 m ∧ vi = .int .i64 i ∧ i ≤ vlen n ∧ m < 4294967296 ∧ Hid (m = n / 128 ^ i) ∧ Hid (wr.rowIs w1.heap.size 5 (vlen n) (laid n i)) ∧ Hid (Below w1.heap.size w1 wr)) (fun _ vi _ => vlen n - (intOf vi).toNat)
  case atStart => exact ⟨n, 0, rfl, rfl, by omega, hn, by show n = n / 1; omega, (World.rowIs_made w1 _ _ _).congr (fun j _ => by simp [laid]), (Below.refl _ _).alloc (Nat.le_refl _) _⟩
  case round =>
    obtain ⟨m, i, rfl, rfl, hi, hm, he, hr, hbl⟩ := hrel
    have hf := hr.out.frozen i
    by_cases hlt : i < vlen n
    · have hc := hr.out.cell hlt
      go_wp2
      go_roundw
      case rel =>
        refine ⟨m / 128, i + 1, by go_num, by go_num, by omega, by omega, ?_, (hr.out.set i _).congr (fun j _ => ?_), hbl.out.setCell (Nat.le_refl _) _⟩
        · show m / 128 = n / 128 ^ (i + 1)
          rw [he.out, Nat.div_div_eq_div_mul, Nat.pow_succ]
        · by_cases hj : j = i
          · subst hj
            rw [if_pos rfl, laid, if_pos (by omega), ← he.out]
            simp
          · rw [if_neg hj]
            unfold laid
            by_cases hji : j < i
            · rw [if_pos hji, if_pos (by omega)]
            · rw [if_neg hji, if_neg (by omega)]
      case measure => simp [intOf]; omega
    · obtain ⟨s, hs⟩ : ∃ s, vlen n = s + 1 := ⟨vlen n - 1, by omega⟩
      have hc := hr.out.cell (i := s) (by omega)
      have hf := hr.out.frozen s
      have hl : laid n i s = .int .u8 ((n / 128 ^ s % 128 + 128 : Nat) : Int) := by rw [laid, if_pos (by omega)]
      rw [hl] at hc
      have hsv : ((vlen n : Nat) : Int) - 1 = (s : Int) := by omega
      have hcv : (convert 68 9 (.slice (some ⟨w1.heap.size, 0, none⟩) (s + 1) (s + 1))).run Try.prog (wr.setCell ⟨w1.heap.size, s, none⟩ (.int .u8 ((n : Int) / 128 ^ s % 128))) = .ok (.string (vtext n)) (wr.setCell ⟨w1.heap.size, s, none⟩ (.int .u8 ((n : Int) / 128 ^ s % 128))) := by
        rw [run_convert_bytes_arg (P := Try.prog) _ 68 5 Try.underlying68 Try.underlying5 w1.heap.size 0 (s + 1) (s + 1) ((vb n).map fun x : Nat => (x : Int)) (by rw [List.length_map, vb_length, hs]) (fun j hj => ?_) 9 Try.underlying9, bytesOf_strs]
        · rfl
        · rw [Nat.zero_add, (hr.out.set s _).cell (by omega), List.getD_eq_getElem?_getD, List.getElem?_map, vb_at n j (by omega)]
          by_cases hj : j = s
          · subst hj
            rw [if_pos rfl, if_neg (by omega)]
            simp
          · rw [if_neg hj, if_pos (by omega), laid, if_pos (by omega)]
            simp
      go_wp2
      exact bodyPost_ret (v := .tuple #[.string (vtext n), .bool true]) (by simp [results, Try.results66, go_sem]) rfl ⟨rfl, hbl.out.setCell (Nat.le_refl _) _⟩


/-- What Put answers at every integer. -/
def pok (n : Int) : Bool := decide (0 ≤ n ∧ n ≤ 4294967295)
def ptext (n : Int) : ByteArray := if 0 ≤ n ∧ n ≤ 4294967295 then vtext n.toNat else ⟨#[]⟩
def plen (n : Int) : Nat := if 0 ≤ n ∧ n ≤ 4294967295 then vlen n.toNat else 0

theorem put_any (n : Int) (w : World) :
    Calls Try.prog 66 #[.int .i64 n] w fun e w' => e = .returned (.tuple #[.string (ptext n), .bool (pok n)]) ∧ Below w.heap.size w w' := by
  by_cases h : 0 ≤ n ∧ n ≤ 4294967295
  · rw [ptext, if_pos h, show pok n = true from decide_eq_true h]
    obtain ⟨m, rfl⟩ := Int.eq_ofNat_of_zero_le h.1
    exact put_in m (by omega) w
  · rw [ptext, if_neg h, show pok n = false from decide_eq_false h]
    refine (put_out n (by omega) w).mono ?_
    rintro e w1 ⟨rfl, rfl⟩
    exact ⟨rfl, Below.refl _ _⟩

theorem len_any (n : Int) (w : World) :
    Calls Try.prog 80 #[.int .i64 n] w fun e w' => e = .returned (.int .i64 (plen n : Nat)) ∧ w' = w := by
  by_cases h : 0 ≤ n ∧ n ≤ 4294967295
  · rw [plen, if_pos h]
    obtain ⟨m, rfl⟩ := Int.eq_ofNat_of_zero_le h.1
    exact len_in m (by omega) w
  · rw [plen, if_neg h]
    exact len_out n (by omega) w
end Go.Proofs.Ytbeahodgkdbidaa
