/-
  Contract of the document's own Stands.
-/
import Derived.Test.YtdplflcaanmmiaaGreatHitWords
import Derived.Test.YtdplflcaanmmiaaGreatFindWord
namespace Go.Proofs.YtdplflcaanmmiaaGreat
open Go.ChangeShapes Go.WideShapes Go.ChangeAt Go.RowKit

/-- The lengths of the phrases that stand at a place, from the greatest one down to one that is greater than n. -/
def standsFrom (P : List (List Nat)) (x : List Nat) (M n : Nat) : List Nat := ((List.range' (n + 1) (M - n)).reverse).filter (fun k => decide (x.take k ∈ P))

theorem standsFrom_start (P : List (List Nat)) (x : List Nat) (M : Nat) : standsFrom P x M M = [] := by simp [standsFrom]
theorem standsFrom_end (P : List (List Nat)) (x : List Nat) (m : Nat) : standsFrom P x (min m x.length) 0 = standsT P m x := by simp [standsFrom, standsT]
theorem standsFrom_next (P : List (List Nat)) (x : List Nat) (M n : Nat) (h : n + 1 ≤ M) : standsFrom P x M n = standsFrom P x M (n + 1) ++ (if x.take (n + 1) ∈ P then [n + 1] else []) := by
  have e : List.range' (n + 1) (M - n) = (n + 1) :: List.range' (n + 1 + 1) (M - (n + 1)) := by
    rw [show M - n = (M - (n + 1)) + 1 by omega, List.range'_succ]
  rw [standsFrom, e, List.reverse_cons, List.filter_append]
  congr 1
  by_cases hm : x.take (n + 1) ∈ P
  · rw [if_pos hm]; simp [hm]
  · rw [if_neg hm]; simp [hm]
theorem standsFrom_few (P : List (List Nat)) (x : List Nat) (M n : Nat) : (standsFrom P x M n).length ≤ M := by
  unfold standsFrom
  refine Nat.le_trans (List.length_filter_le _ _) ?_
  simp

theorem slice_amid (b : ByteArray) (i j : Nat) (hij : i ≤ j) (hj : j ≤ b.size) (W : World) : (Instr.slice 9 (.string b) (some (.int .i64 (i : Int))) (some (.int .i64 (j : Int))) none).run Tryz.prog W = .ok (.string (b.extract i j)) W := by
  rw [run_slice_string (P := Tryz.prog) W 9 b .i64 .i64 (i : Int) (j : Int) Tryz.underlying9 (by omega) (by omega) (by omega)]
  rw [show ((i : Int)).toNat = i by omega, show ((j : Int)).toNat = j by omega]

theorem nums_amid (b : ByteArray) (i n : Nat) : nums (b.extract i (i + n)) = ((nums b).drop i).take n := by
  rw [nums_extract, show i + n - i = n by omega]

set_option maxRecDepth 20000 in
set_option maxHeartbeats 4000000 in
theorem stands_any {w : World} {v : Value} {L : List ByteArray} (hv : Reads w v (strs L)) (hl : L.length ≤ 1000) (b : ByteArray) (hb : b.size ≤ 1000) (i : Nat) (hi : i < b.size) :
    Calls Tryz.prog 16 #[v, .string b, .int .i64 (i : Int)] w fun e w' => ∃ v', e = .returned v' ∧ w'.ownsRow w.heap.size 3 1 v' (standsT (L.map nums) 40 ((nums b).drop i)).length (numsI (standsT (L.map nums) 40 ((nums b).drop i))) ∧ Below w.heap.size w w' := by
  obtain ⟨i0, hi0, hz0, hz1, hz2⟩ := info_parts Tryz.infoInt
  have HV := hid hv
  obtain ⟨M, hM⟩ : ∃ M, M = min 40 (b.size - i) := ⟨_, rfl⟩
  have hmin : min (40 : Int) ((b.size : Int) - (i : Int)) = (M : Int) := by omega
  have hM40 : M ≤ 40 := by omega
  have hMb : i + M ≤ b.size := by omega
  have HEND : Hid (standsFrom (L.map nums) ((nums b).drop i) M 0 = standsT (L.map nums) 40 ((nums b).drop i)) := by
    show _ = _
    rw [hM, ← standsFrom_end, List.length_drop, nums_length]
  clear hv hM
  go_enter Tryz.func16, Tryz.ntmps16
  go_wp2
  go_loopw [7, 8] (fun u vn wr => ∃ n : Nat, vn = .int .i64 n ∧ n ≤ M ∧ Hid (wr.ownsRow w.heap.size 3 1 u (standsFrom (L.map nums) ((nums b).drop i) M n).length (numsI (standsFrom (L.map nums) ((nums b).drop i) M n))) ∧ Hid (Below w.heap.size w wr)) (fun _ vn _ => (intOf vn).toNat)
  case atStart => exact ⟨M, rfl, Nat.le_refl _, by show World.ownsRow _ _ _ _ _ _ _; rw [standsFrom_start]; exact World.ownsRow_nil _ _ _ _, Below.refl _ _⟩
  case round =>
    obtain ⟨n, rfl, hn, hown, hbw⟩ := hrel
    by_cases h0 : n = 0
    · subst h0
      have ho := hown.out
      rw [HEND.out] at ho
      have HO := hid ho
      clear ho hown
      go_wp2
      go_ret
      exact ⟨_, rfl, HO.out, hbw.out⟩
    · obtain ⟨n, rfl⟩ : ∃ m, n = m + 1 := ⟨n - 1, by omega⟩
      obtain ⟨j, hj⟩ : ∃ j, j = i + (n + 1) := ⟨_, rfl⟩
      have hsum : (i : Int) + ((n + 1 : Nat) : Int) = (j : Int) := by omega
      have hsum2 : (i : Int) + ((n : Int) + 1) = (j : Int) := by omega
      have hsl := fun W => slice_amid b i j (by omega) (by omega) W
      have hFd := fun W (hW : Below w.heap.size w W) => find_word (s := b.extract i j) (HV.out.below hW) (by omega)
      rw [hj, nums_amid, ← hj] at hFd
      have hNX := standsFrom_next (L.map nums) ((nums b).drop i) M n hn
      have hfew := standsFrom_few (L.map nums) ((nums b).drop i) M (n + 1)
      have hg1 : decide ((1 : Int) ≤ ((n + 1 : Nat) : Int)) = true := decide_eq_true (by omega)
      have hg2 : decide ((1 : Int) ≤ (n : Int) + 1) = true := decide_eq_true (by omega)
      obtain ⟨s, hs⟩ : ∃ s, s = b.extract i j := ⟨_, rfl⟩
      rw [← hs] at hsl hFd
      obtain ⟨ys, hys⟩ : ∃ ys, ys = standsFrom (L.map nums) ((nums b).drop i) M (n + 1) := ⟨_, rfl⟩
      rw [← hys] at hNX hfew hown
      obtain ⟨zs, hzs⟩ : ∃ zs, zs = standsFrom (L.map nums) ((nums b).drop i) M n := ⟨_, rfl⟩
      rw [← hzs] at hNX
      have HZS := hid hzs
      by_cases hm : ((nums b).drop i).take (n + 1) ∈ L.map nums
      · rw [if_pos hm] at hNX
        obtain ⟨k, hk⟩ : ∃ k, k = (L.map nums).idxOf (((nums b).drop i).take (n + 1)) := ⟨_, rfl⟩
        simp only [wordOf, if_pos hm, ← hk] at hFd
        have HFd := hid hFd
        have HNX := hid hNX
        have hgk : decide ((0 : Int) ≤ (k : Int)) = true := decide_eq_true (by omega)
        clear hFd hNX hk hm hs hys hzs hj
        go_wp2_with (first
          | (go_at_call 53; refine (HFd.out _ hbw.out).mono ?_; rintro e w8 ⟨rfl, rfl⟩)
          | (at_builtin; refine wpList_append_reads _ rfl (.tmp 27) (.tmp 29) 27 rfl w.heap.size 3 i0 (.int .i64 0) 8 Tryz.underlying27 hi0 hz0 hz1 hz2 rfl u7 ys.length (numsI ys) rfl (hown.out.alloc _) _ [.int .i64 ((n + 1 : Nat) : Int)] rfl (reads_built _ #[.int .i64 ((n + 1 : Nat) : Int)] _ 1 rfl) (by intro u hu; simp at hu; subst hu; rfl) (by unfold maxLen; simp; omega) (by simp; omega) (by have := hbw.out.size; simp; omega) ?_; intro v' w4 hown4 hgrow hat hold))
        have HB4 : Hid (Below w.heap.size w w4) := (hbw.out.alloc hbw.out.size _).grown hgrow (by have := hbw.out.size; simp; omega) (fun g hg => (hown.out.lt g hg).1)
        have HO4 := hid hown4
        clear hown4 hgrow hat hold hown hbw
        go_roundw
        case rel =>
          refine ⟨n, by go_num, by omega, ?_, HB4.out⟩
          show World.ownsRow _ _ _ _ _ _ _
          rw [← HZS.out, HNX.out, List.length_append]
          have h := HO4.out
          rw [show numsI (ys ++ [n + 1]) = numsI ys ++ [.int .i64 ((n + 1 : Nat) : Int)] by simp [numsI]]
          exact h
        case measure => simp [intOf]
      · rw [if_neg hm, List.append_nil] at hNX
        simp only [wordOf, if_neg hm] at hFd
        have HFd := hid hFd
        have HNX := hid hNX
        clear hFd hNX hm hs hys hzs hj
        go_wp2_with (go_at_call 53; refine (HFd.out _ hbw.out).mono ?_; rintro e w8 ⟨rfl, rfl⟩)
        go_roundw
        case rel =>
          refine ⟨n, by go_num, by omega, ?_, hbw.out⟩
          show World.ownsRow _ _ _ _ _ _ _
          rw [← HZS.out, HNX.out]
          exact hown.out
        case measure => simp [intOf]
end Go.Proofs.YtdplflcaanmmiaaGreat
