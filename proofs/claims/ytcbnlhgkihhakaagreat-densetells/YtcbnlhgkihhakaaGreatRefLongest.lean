/-
  Contract of the document's own Longest: the longest end of a text that is a beginning.
-/
import Derived.Test.YtcbnlhgkihhakaaGreatNodes
import Derived.Test.YtcbnlhgkihhakaaGreatEnds
import Derived.Test.YtcbnlhgkihhakaaGreatLongMath
namespace Go.Proofs.YtcbnlhgkihhakaaGreat
open Go.ChangeShapes Go.WideShapes Go.ChangeAt Go.RowKit

set_option maxRecDepth 20000 in
set_option maxHeartbeats 2000000 in
theorem longest_from {w : World} {v : Value} {A : List (List Nat)} (hA : AllBytes A) (h0 : [] ∈ A) (hv : Reads w v (strs (asTexts A))) (hl : A.length ≤ 1000000) {x : List Nat} {s : ByteArray} (hs : s = bytesOf x) (hx : ∀ z ∈ x, z < 256) (hxl : x.length ≤ 1000000) (most : Nat) (hm : most ≤ 1000000) :
    Calls Tryz.prog 12 #[v, .string s, .int .i64 (most : Int)] w fun e w' => e = .returned (.int .i64 ((A.idxOf (longT A (x.drop (x.length - most))) : Nat) : Int)) ∧ w' = w := by
  have hss : s.size = x.length := by rw [hs, bytesOf_size]
  obtain ⟨k0, hk0⟩ : ∃ k0, k0 = x.length - most := ⟨_, rfl⟩
  have HS := hid hs
  have HSS := hid hss
  have HV := hid hv
  have HA := hid hA
  have HX := hid hx
  have H0 := hid h0
  have hsl6 : s.size ≤ 1000000 := by rw [hss]; exact hxl
  have hkl : k0 ≤ s.size := by omega
  have hval : max ((s.size : Int) - (most : Int)) 0 = (k0 : Int) := by omega
  rw [← hk0]
  have HK0 : Hid (s.size - most = k0) := by show _ = _; rw [hss]; exact hk0.symm
  clear hs hss hv hA hx h0 hk0
  go_enter Tryz.func12, Tryz.ntmps12
  go_wp2
  go_loopw [7] (fun vk wr => ∃ k : Nat, vk = .int .i64 k ∧ k ≤ s.size ∧ Hid (longT A (x.drop k0) = longT A (x.drop k)) ∧ wr = w) (fun vk _ => s.size + 1 - (intOf vk).toNat)
  case atStart => exact ⟨k0, by first | rfl | (simp; omega) | go_num, hkl, rfl, rfl⟩
  case round =>
    obtain ⟨k, rfl, hk, hT, rfl⟩ := hrel
    have hd : decide ((k : Int) ≤ (s.size : Int)) = true := decide_eq_true (by omega)
    have hsl : ∀ W : World, (Instr.slice 9 (.string s) (some (.int .i64 (k : Int))) none none).run Tryz.prog W = .ok (.string (bytesOf (x.drop k))) W := fun W => by
      rw [HS.out]
      exact slice_last x k (by rw [← HSS.out]; exact hk) W
    have HFd := hid (find_begin HA.out HV.out hl (x := x.drop k) (fun z hz => HX.out z (List.mem_of_mem_drop hz)))
    by_cases hin : x.drop k ∈ A
    · rw [wordOf, if_pos hin] at HFd
      have HR : Hid (longT A (x.drop k0) = x.drop k) := by show _ = _; rw [hT.out, longT_at A _ hin]
      go_wp2_with (go_at_call 14; refine (HFd.out).mono ?_; rintro e w1 ⟨rfl, rfl⟩)
      go_ret
      rw [HR.out]
      exact ⟨rfl, rfl⟩
    · rw [wordOf, if_neg hin] at HFd
      have hks : k < s.size := by
        rcases Nat.lt_or_ge k s.size with h | h
        · exact h
        · exact absurd (by rw [List.drop_eq_nil_of_le (by rw [← HSS.out]; exact h)]; exact H0.out) hin
      have HR : Hid (longT A (x.drop k0) = longT A (x.drop (k + 1))) := by show _ = _; rw [hT.out, longT_skip A x k (by rw [← HSS.out]; exact hks) hin]
      go_wp2_with (go_at_call 14; refine (HFd.out).mono ?_; rintro e w1 ⟨rfl, rfl⟩)
      go_roundw
      case rel => exact ⟨k + 1, by go_num, by omega, HR.out, by first | rfl | trivial⟩
      case measure => simp [intOf]; omega
end Go.Proofs.YtcbnlhgkihhakaaGreat
