/-
  Contracts of the document's own First, Token, Greedy.
-/
import Derived.Test.YtdplflcaanmmiaaRefStands
import Derived.Test.YtdplflcaanmmiaaGreedy
namespace Go.Proofs.Ytdplflcaanmmiaa
open Go.ChangeShapes Go.WideShapes Go.ChangeAt Go.RowKit

theorem drop_some {b : ByteArray} {i : Nat} (hi : i < b.size) : (nums b).drop i ≠ [] := by
  intro e
  have := congrArg List.length e
  rw [List.length_drop, nums_length] at this
  simp at this
  omega

theorem standsT_few3 (P : List (List Nat)) (m : Nat) (x : List Nat) : (standsT P m x).length ≤ m := by
  unfold standsT
  refine Nat.le_trans (List.length_filter_le _ _) ?_
  simp
  omega

set_option maxRecDepth 20000 in
set_option maxHeartbeats 2000000 in
theorem token_any {w : World} {v : Value} {L : List ByteArray} (hv : Reads w v (strs L)) (hl : L.length ≤ 1000) (b : ByteArray) (hb : b.size ≤ 1000) (i n : Nat) (hi : i < b.size) (hn : i + n ≤ b.size) :
    Calls Try.prog 12 #[v, .string b, .int .i64 (i : Int), .int .i64 (n : Int)] w fun e w' => e = .returned (.int .i64 (tokT (L.map nums) ((nums b).drop i) n : Int)) ∧ w' = w := by
  obtain ⟨j, hj⟩ : ∃ j, j = i + n := ⟨_, rfl⟩
  have hsum : (i : Int) + (n : Int) = (j : Int) := by omega
  have hsl := fun W => slice_amid b i j (by omega) (by omega) W
  have hFd := find_word (s := b.extract i j) hv (by omega)
  rw [hj, nums_amid, ← hj] at hFd
  have hix := byte_index b i hi
  have hdr := drop_nums b i hi
  obtain ⟨c, hc⟩ : ∃ c, c = (b[i]'hi).toNat := ⟨_, rfl⟩
  rw [← hc] at hix hdr
  obtain ⟨s, hs⟩ : ∃ s, s = b.extract i j := ⟨_, rfl⟩
  rw [← hs] at hsl hFd
  by_cases hm : ((nums b).drop i).take n ∈ L.map nums
  · have e1 : tokT (L.map nums) ((nums b).drop i) n = 256 + (L.map nums).idxOf (((nums b).drop i).take n) := by unfold tokT; rw [if_pos hm]
    have hk1 : (L.map nums).idxOf (((nums b).drop i).take n) < L.length := by simpa using List.idxOf_lt_length_of_mem hm
    rw [e1]
    simp only [wordOf, if_pos hm] at hFd
    obtain ⟨k, hk⟩ : ∃ k, k = (L.map nums).idxOf (((nums b).drop i).take n) := ⟨_, rfl⟩
    rw [← hk] at hFd hk1 ⊢
    have HFd := hid hFd
    have hgk : decide ((0 : Int) ≤ (k : Int)) = true := decide_eq_true (by omega)
    clear hFd hk hm hs hj hdr hc hix e1 hv
    go_enter Try.func12, Try.ntmps12
    go_wp2_with (go_at_call 24; refine (HFd.out).mono ?_; rintro e w8 ⟨rfl, rfl⟩)
    go_ret
    exact ⟨rfl, rfl⟩
  · have e1 : tokT (L.map nums) ((nums b).drop i) n = c := by unfold tokT; rw [if_neg hm, hdr, List.headD_cons]
    rw [e1]
    simp only [wordOf, if_neg hm] at hFd
    have HFd := hid hFd
    have hc256 : c < 256 := by rw [hc]; exact UInt8.toNat_lt _
    clear hFd hm hs hj hdr hc e1 hv
    go_enter Try.func12, Try.ntmps12
    go_wp2_with (go_at_call 24; refine (HFd.out).mono ?_; rintro e w8 ⟨rfl, rfl⟩)
    go_ret
    exact ⟨rfl, rfl⟩

end Go.Proofs.Ytdplflcaanmmiaa
