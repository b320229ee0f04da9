/-
  Contract of the document's own Find.
-/
import Derived.Test.YtchbjokcnpcgcaaDict1
namespace Go.Proofs.Ytchbjokcnpcgcaa
open Go.ChangeShapes Go.WideShapes Go.ChangeAt Go.RowKit

set_option maxRecDepth 20000 in
set_option maxHeartbeats 2000000 in
theorem refFind_in {w : World} {v : Value} {L : List ByteArray} {s : ByteArray} {k : Nat} (hv : Reads w v (strs L)) (hl : L.length ≤ 1000000) (hk : First L s k) :
    Calls Try.prog 27 #[v, .string s] w fun e w' => e = .returned (.int .i64 k) ∧ w' = w := by
  obtain ⟨a, ca, rfl, ha⟩ := hv
  rw [strs_length] at *
  have HA := hid ha
  have HK := hid hk
  have hk1 : k < L.length := by obtain ⟨h, _⟩ := hk; exact h
  clear ha hk
  generalize hn : L.length = n at HA hl hk1
  have HN := hid hn
  clear hn
  go_enter Try.func27, Try.ntmps27
  go_wp2
  go_loopw [5] (fun vi wr => ∃ i : Nat, vi = .int .i64 i ∧ i ≤ k ∧ wr = w) (fun vi _ => n - (intOf vi).toNat)
  case atStart => exact ⟨0, rfl, by omega, rfl⟩
  case round =>
    obtain ⟨i, rfl, hi, rfl⟩ := hrel
    rcases HA.out with h | ⟨gb, o, rfl, hgb, hcell⟩
    · omega
    have hin : i < n := by omega
    have hcb : wr.cell? ⟨gb, o + i, none⟩ = some (.string (L[i]'(by rw [HN.out]; exact hin))) := by rw [hcell i hin, strs_at]
    clear hcell
    have hx' : (decide ((0 : Int) ≤ (i : Int) ∧ (i : Int) < (n : Int))) = true := decide_eq_true ⟨by omega, by omega⟩
    by_cases hik : i = k
    · subst hik
      have hxb : ((L[i]'(by rw [HN.out]; exact hin)).toList == s.toList) = true := text_eq (by obtain ⟨_, h, _⟩ := HK.out; exact h)
      go_wp2
      go_ret
      exact ⟨rfl, rfl⟩
    · have hxb : ((L[i]'(by rw [HN.out]; exact hin)).toList == s.toList) = false := text_ne (by obtain ⟨_, _, h⟩ := HK.out; exact fun e => h i (by omega) e)
      go_wp2
      go_roundw
      case rel => exact ⟨i + 1, by go_num, by omega, by first | rfl | trivial⟩
      case measure => simp [intOf]; omega

set_option maxRecDepth 20000 in
set_option maxHeartbeats 2000000 in
theorem refFind_out {w : World} {v : Value} {L : List ByteArray} {s : ByteArray} (hv : Reads w v (strs L)) (hl : L.length ≤ 1000000) (hk : s ∉ L) :
    Calls Try.prog 27 #[v, .string s] w fun e w' => e = .returned (.int .i64 (-1)) ∧ w' = w := by
  obtain ⟨a, ca, rfl, ha⟩ := hv
  rw [strs_length] at *
  have HA := hid ha
  have HK := hid hk
  clear ha hk
  generalize hn : L.length = n at HA hl
  have HN := hid hn
  clear hn
  go_enter Try.func27, Try.ntmps27
  go_wp2
  go_loopw [5] (fun vi wr => ∃ i : Nat, vi = .int .i64 i ∧ i ≤ n ∧ wr = w) (fun vi _ => n - (intOf vi).toNat)
  case atStart => exact ⟨0, rfl, by omega, rfl⟩
  case round =>
    obtain ⟨i, rfl, hi, rfl⟩ := hrel
    by_cases hin : i < n
    · rcases HA.out with h | ⟨gb, o, rfl, hgb, hcell⟩
      · omega
      have hcb : wr.cell? ⟨gb, o + i, none⟩ = some (.string (L[i]'(by rw [HN.out]; exact hin))) := by rw [hcell i hin, strs_at]
      clear hcell
      have hx' : (decide ((0 : Int) ≤ (i : Int) ∧ (i : Int) < (n : Int))) = true := decide_eq_true ⟨by omega, by omega⟩
      have hxb : ((L[i]'(by rw [HN.out]; exact hin)).toList == s.toList) = false := text_ne (fun e => HK.out (by rw [← e]; exact List.getElem_mem _))
      go_wp2
      go_roundw
      case rel => exact ⟨i + 1, by go_num, by omega, by first | rfl | trivial⟩
      case measure => simp [intOf]; omega
    · go_wp2
      go_ret
      exact ⟨rfl, rfl⟩
end Go.Proofs.Ytchbjokcnpcgcaa
