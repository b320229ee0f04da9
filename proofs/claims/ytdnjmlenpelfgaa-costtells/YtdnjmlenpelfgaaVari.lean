/-
  Contracts of package vari: what Len, Put and Get answer, for every number and every text, and that they leave memory as it was, new blocks aside.
-/
import Derived.Test.YtdnjmlenpelfgaaRows
import Derived.Test.YtdnjmlenpelfgaaVariMath
import Derived.WalkKit
import Derived.ProofKit
import Derived.OpenShut
import Derived.Below
import Derived.Deep.QuietTactic
import Derived.BigQuiet
import Derived.WalkSmall
import Derived.Handy
import Derived.RegionTactic
import Derived.Deep.OwnRows
import Derived.Laws.BytesArg
import Derived.Laws.Concat
namespace Go.Proofs.Ytdnjmlenpelfgaa
open Go.ChangeShapes Go.WideShapes Go.ChangeAt Go.RowKit

set_option maxRecDepth 20000 in
set_option maxHeartbeats 1000000 in
theorem len_in (n : Nat) (hn : n < 4294967296) (w : World) :
    Calls Try.prog 18 #[.int .i64 n] w fun e w' => e = .returned (.int .i64 (vlen n : Nat)) ∧ w' = w := by
  go_enter Try.func18, Try.ntmps18
  go_wp2
  go_loopw [0, 3] (fun vn vs wr => ∃ m k : Nat, vn = .int .i64 m ∧ vs = .int .i64 k ∧ m < 4294967296 ∧ k ≤ 4294967296 ∧ Hid (k + vlen m = vlen n + 1) ∧ wr = w) (fun vn _ _ => (intOf vn).toNat)
  case atStart => exact ⟨n, 1, rfl, rfl, hn, by omega, Nat.add_comm _ _, rfl⟩
  case round =>
    obtain ⟨m, k, rfl, rfl, hm, hk, he, rfl⟩ := hrel
    by_cases h : 128 ≤ m
    · go_wp2
      go_roundw
      case rel => exact ⟨m / 128, k + 1, by go_num, by go_num, by omega, by have := he.out; have := vlen_pos m; have := vlen_five n (by omega); omega, by have h1 := he.out; rw [vlen_ge m h] at h1; show k + 1 + vlen (m / 128) = vlen n + 1; omega, trivial⟩
      case measure => simp [intOf]; omega
    · go_wp2
      go_ret
      have h1 := he.out
      rw [vlen_lt m (by omega)] at h1
      obtain rfl : k = vlen n := by omega
      exact ⟨rfl, rfl⟩

theorem len_out (n : Int) (hn : n < 0 ∨ 4294967295 < n) (w : World) :
    Calls Try.prog 18 #[.int .i64 n] w fun e w' => e = .returned (.int .i64 0) ∧ w' = w := by
  rcases hn with h | h
  · go_enter Try.func18, Try.ntmps18
    go_wp2
    go_ret
    exact ⟨rfl, rfl⟩
  · have h0 : ¬ n < 0 := by omega
    go_enter Try.func18, Try.ntmps18
    go_wp2
    go_ret
    exact ⟨rfl, rfl⟩

theorem wrap_byte (c : Nat) (hc : c < 256) : wrap64 (c : Int) = (c : Int) := IntWalk.wrap64_in _ ⟨by omega, by omega⟩

theorem index_at (b : ByteArray) (i : Nat) (h : i < b.size) (w : World) : (Instr.index 9 (.string b) (.int .i64 (i : Int))).run Try.prog w = .ok (.int .u8 ((b[i]'h).toNat : Int)) w := by
  rw [run_index_string w 9 b .i64 _ Try.underlying9, dif_pos ⟨by omega, by omega⟩]
  rfl

theorem Try.infoByte : (Try.prog.info? 5).map (fun i => (i.zero, i.size, i.bytes)) = some (some (.int .u8 0), 1, 1) := by kernel_rfl

/-- What the cells hold when i bytes are laid. -/
def laid (n i j : Nat) : Value := if j < i then .int .u8 ((n / 128 ^ j % 128 + 128 : Nat) : Int) else .int .u8 0

/-- What Put answers at every integer. -/
def pok (n : Int) : Bool := decide (0 ≤ n ∧ n ≤ 4294967295)
def ptext (n : Int) : ByteArray := if 0 ≤ n ∧ n ≤ 4294967295 then vtext n.toNat else ⟨#[]⟩
def plen (n : Int) : Nat := if 0 ≤ n ∧ n ≤ 4294967295 then vlen n.toNat else 0

theorem len_any (n : Int) (w : World) :
    Calls Try.prog 18 #[.int .i64 n] w fun e w' => e = .returned (.int .i64 (plen n : Nat)) ∧ w' = w := by
  by_cases h : 0 ≤ n ∧ n ≤ 4294967295
  · rw [plen, if_pos h]
    obtain ⟨m, rfl⟩ := Int.eq_ofNat_of_zero_le h.1
    exact len_in m (by omega) w
  · rw [plen, if_neg h]
    exact len_out n (by omega) w
end Go.Proofs.Ytdnjmlenpelfgaa
