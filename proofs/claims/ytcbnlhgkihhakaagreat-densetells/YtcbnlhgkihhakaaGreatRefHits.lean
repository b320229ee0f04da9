/-
  Contract of the document's own Hits: each phrase that ends behind each byte, the longest first.
-/
import Derived.Test.YtcbnlhgkihhakaaGreatAlive10
import Derived.Test.YtcbnlhgkihhakaaGreatRef
namespace Go.Proofs.YtcbnlhgkihhakaaGreat
open Go.ChangeShapes Go.WideShapes Go.ChangeAt Go.RowKit

theorem slice_mid (x : List Nat) (i k : Nat) (hk : k ≤ i) (hi : i ≤ x.length) (W : World) : (Instr.slice 9 (.string (bytesOf x)) (some (.int .i64 (k : Int))) (some (.int .i64 (i : Int))) none).run Tryz.prog W = .ok (.string (bytesOf ((x.take i).drop k))) W := by
  have hs := bytesOf_size x
  rw [run_slice_string (P := Tryz.prog) W 9 (bytesOf x) .i64 .i64 (k : Int) (i : Int) Tryz.underlying9 (by omega) (by omega) (by omega)]
  congr 2
  apply ByteArray.ext
  apply Array.ext'
  simp [bytesOf, ByteArray.data_extract, List.map_drop, List.map_take, List.drop_take]

theorem hitsT_step (P : List (List Nat)) (n : Nat) (z b : List Nat) (c : Nat) : asHits (hitsT P n z (b ++ [c])) = asHits (hitsT P n z b) ++ hitsN P (n + b.length + 1) (endsT P (z ++ b ++ [c])) := by
  rw [hitsT_append, asHits_append]
  congr 1
  simp [hitsT, hitsN, asHits]

/-- The ends of z from the last M bytes on. -/
theorem endsT_drop (P : List (List Nat)) (z : List Nat) (M : Nat) (h : M + 1 ≤ z.length) : endsT P (z.drop (z.length - (M + 1))) = (if z.drop (z.length - (M + 1)) ∈ P then [z.drop (z.length - (M + 1))] else []) ++ endsT P (z.drop (z.length - M)) := by
  have e : z.drop (z.length - (M + 1)) = z[z.length - (M + 1)]'(by omega) :: z.drop (z.length - M) := by
    rw [List.drop_eq_getElem_cons (by omega), show z.length - (M + 1) + 1 = z.length - M by omega]
  conv => lhs; rw [e, endsT, ← e]
  split <;> rfl

theorem endsT_start (P : List (List Nat)) (h40 : ∀ x ∈ P, x.length ≤ 40) (z : List Nat) : endsT P (z.drop (z.length - min z.length 40)) = endsT P z := by
  rcases Nat.lt_or_ge z.length 40 with h | h
  · rw [show z.length - min z.length 40 = 0 by omega, List.drop_zero]
  · rw [show z.length - min z.length 40 = z.length - 40 by omega]
    conv => rhs; rw [← List.take_append_drop (z.length - 40) z]
    rw [endsT_last P 40 h40 _ _ (by rw [List.length_drop]; omega)]

set_option maxRecDepth 20000 in
set_option maxHeartbeats 1000000 in
theorem refHits_any {w : World} {v : Value} {L : List ByteArray} {P : List (List Nat)} (hv : Reads w v (strs L)) (hl : L.length ≤ 1000) (hP : P = L.map nums) (h40 : ∀ x ∈ P, x.length ≤ 40) (was b : ByteArray) (hwl : was.size ≤ 10000) (hbl : b.size ≤ 1000) (n : Nat) (hn : n ≤ 1000000) :
    Calls Tryz.prog 23 #[v, .string was, .string b, .int .i64 (n : Int)] w fun e w' => ∃ v', e = .returned v' ∧ ReadsH w' v' (asHits (hitsT P n (nums was) (nums b))) ∧ Below w.heap.size w w' := by
  have HV := hid hv
  have HP := hid hP
  have H40 := hid h40
  obtain ⟨N, hN⟩ : ∃ N, N = was.size := ⟨_, rfl⟩
  obtain ⟨T, hT⟩ : ∃ T, T = was.size + b.size := ⟨_, rfl⟩
  obtain ⟨x, hx⟩ : ∃ x, x = nums was ++ nums b := ⟨_, rfl⟩
  obtain ⟨s, hs⟩ : ∃ s, s = was ++ b := ⟨_, rfl⟩
  have hss : s.size = T := by rw [hs, ByteArray.size_append, hT]
  have hsx : s = bytesOf x := by rw [hs, hx, ← nums_append, bytesOf_nums]
  have hxl : x.length = T := by rw [hx, List.length_append, nums_length, nums_length, hT]
  have hxb : ∀ u ∈ x, u < 256 := fun u hu => by
    rw [hx] at hu
    rcases List.mem_append.1 hu with h | h
    · exact nums_byte _ _ h
    · exact nums_byte _ _ h
  have hadd : ∀ W : World, (Op.stringOp .add was b).run Tryz.prog W = .ok (.string s) W := fun W => by
    rw [run_string_add_sum W _ _ (by omega), hs]
  have htw : nums was = x.take N := by rw [hx, hN, ← nums_length was, List.take_left]
  have hdb : nums b = x.drop N := by rw [hx, hN, ← nums_length was, List.drop_left]
  have hNT : N ≤ T := by omega
  have hN1 : N ≤ 10000 := by omega
  have hT1 : T ≤ 11000 := by omega
  have hTN : T ≤ N + 1000 := by omega
  rw [htw, hdb]
  have HXB := hid hxb
  have HXL := hid hxl
  have HSX := hid hsx
  have HSS := hid hss
  have hwN : (was.size : Int) = (N : Int) := by omega
  have hsT : (s.size : Int) = (T : Int) := by omega
  clear hv hP h40 hT hx hs hss hsx hxl hxb htw hdb hN hwl hbl
  go_enter Tryz.func23, Tryz.ntmps23
  go_wp2
  go_loopw [10, 11] (fun u vi wr => ∃ (j I K : Nat), vi = .int .i64 (I : Int) ∧ Hid (I = N + j + 1) ∧ I ≤ T + 1 ∧ N + 1 ≤ I ∧ K ≤ j * 40 ∧ Hid (wr.ownsRow w.heap.size 75 2 u K (hcells (asHits (hitsT P n (x.take N) ((x.drop N).take j))))) ∧ Hid (Below w.heap.size w wr)) (fun _ vi _ => T + 1 - (intOf vi).toNat)
  case atStart => exact ⟨0, N + 1, 0, by go_num, rfl, by omega, by omega, by omega, World.ownsRow_nil _ _ _ _, Below.refl _ _⟩
  case round =>
    obtain ⟨j, I, K, rfl, hI, hI1, hI2, hK, hown, hbl⟩ := hrel
    by_cases hlt : I ≤ T
    · obtain ⟨M0, hM0⟩ : ∃ M0, M0 = min I 40 := ⟨_, rfl⟩
      have hmin : min (I : Int) 40 = (M0 : Int) := by omega
      have hM1 : M0 ≤ I := by omega
      have hM2 : M0 ≤ 40 := by omega
      have HM0 := hid hM0
      clear hM0
      go_wp2
      go_loopw [10, 12] (fun u2 vm wr2 => ∃ (M K2 : Nat) (ys : List (List Nat)), vm = .int .i64 (M : Int) ∧ M ≤ M0 ∧ Hid (K2 = K + ys.length) ∧ ys.length + M ≤ M0 ∧ Hid (endsT P (x.take I) = ys ++ endsT P ((x.take I).drop (I - M))) ∧ Hid (wr2.ownsRow w.heap.size 75 2 u2 K2 (hcells (asHits (hitsT P n (x.take N) ((x.drop N).take j)) ++ hitsN P (n + j + 1) ys))) ∧ Hid (Below w.heap.size w wr2)) (fun _ vm _ => (intOf vm).toNat)
      case atStart => exact ⟨M0, K, [], rfl, Nat.le_refl _, rfl, by simp, by
          show _ = _
          have h := endsT_start P H40.out (x.take I)
          rw [List.length_take, HXL.out, show min I T = I by omega, ← HM0.out] at h
          rw [h, List.nil_append], by
          show World.ownsRow _ _ _ _ _ _ _
          rw [show hitsN P (n + j + 1) [] = [] from rfl, List.append_nil]
          exact hown.out, hbl.out⟩
      case round =>
        obtain ⟨M, K2, ys, rfl, hMM, hK2, hyM, hE, hown2, hb2⟩ := hrel
        by_cases hm0 : M = 0
        · subst hm0
          have hE2 := hE.out
          rw [Nat.sub_zero, List.drop_eq_nil_of_le (by rw [List.length_take]; omega), show endsT P [] = [] from rfl, List.append_nil] at hE2
          have HR : Hid (asHits (hitsT P n (x.take N) ((x.drop N).take j)) ++ hitsN P (n + j + 1) ys = asHits (hitsT P n (x.take N) ((x.drop N).take (j + 1)))) := by
            have hIe := hI.out
            have hNj : N + j < x.length := by rw [HXL.out]; omega
            have ht : (x.drop N).take (j + 1) = (x.drop N).take j ++ [x[N + j]'hNj] := by
              rw [List.take_succ_eq_append_getElem (by rw [List.length_drop]; omega), List.getElem_drop]
            have hz : x.take N ++ (x.drop N).take j ++ [x[N + j]'hNj] = x.take I := by
              rw [hIe, List.take_succ_eq_append_getElem hNj]
              congr 1
              rw [← List.take_append_drop N (x.take (N + j)), List.take_take, List.drop_take, show min N (N + j) = N by omega, show N + j - N = j by omega]
            show _ = _
            rw [ht, hitsT_step, hz, hE2, List.length_take, List.length_drop, HXL.out, show min j (T - N) = j by omega]
          have HO2 : Hid (wr.ownsRow w.heap.size 75 2 u10 K2 (hcells (asHits (hitsT P n (x.take N) ((x.drop N).take (j + 1)))))) := by
            show World.ownsRow _ _ _ _ _ _ _
            rw [← HR.out]
            exact hown2.out
          have hIe2 : Hid (I + 1 = N + (j + 1) + 1) := by show _ = _; rw [hI.out]; omega
          have hK3 : K2 ≤ (j + 1) * 40 := by have := hK2.out; omega
          clear hE2
          go_wp2
          go_roundw
          case rel => exact ⟨j + 1, I + 1, K2, by go_num, hIe2.out, by omega, by omega, hK3, HO2.out, hb2.out⟩
          case measure => simp [intOf]; omega
        · obtain ⟨M', rfl⟩ : ∃ M', M = M' + 1 := ⟨M - 1, by omega⟩
          obtain ⟨Q, hQ⟩ : ∃ Q, Q = I - (M' + 1) := ⟨_, rfl⟩
          have hQ1 : Q ≤ I := by omega
          have hQ2 : (I : Int) - ((M' : Int) + 1) = (Q : Int) := by omega
          have hQ3 : (I : Int) - ((M' + 1 : Nat) : Int) = (Q : Int) := by omega
          obtain ⟨y, hy⟩ : ∃ y, y = (x.take I).drop Q := ⟨_, rfl⟩
          have hyb : ∀ u ∈ y, u < 256 := fun u hu => HXB.out u (by rw [hy] at hu; exact List.mem_of_mem_take (List.mem_of_mem_drop hu))
          have hsl : ∀ W : World, (Instr.slice 9 (.string s) (some (.int .i64 (Q : Int))) (some (.int .i64 (I : Int))) none).run Tryz.prog W = .ok (.string (bytesOf y)) W := fun W => by
            rw [HSX.out, hy]
            exact slice_mid x I Q hQ1 (by rw [HXL.out]; omega) W
          have hFd := find_word (s := bytesOf y) (HV.out.below hb2.out) (by omega)
          rw [nums_bytesOf y hyb, ← HP.out] at hFd
          have hE2 := hE.out
          have hed := endsT_drop P (x.take I) M' (by rw [List.length_take, HXL.out]; omega)
          rw [List.length_take, HXL.out, show min I T = I by omega, ← hQ, ← hy] at hed
          rw [← hQ, ← hy, hed] at hE2
          have hg1 : decide ((1 : Int) ≤ (M' : Int) + 1) = true := decide_eq_true (by omega)
          have hg2 : decide ((1 : Int) ≤ ((M' + 1 : Nat) : Int)) = true := decide_eq_true (by omega)
          have hK9 : K2 ≤ 500000 := by
            have h1 := hK2.out
            have h2 := hI.out
            have h3 : j * 40 ≤ 11000 * 40 := Nat.mul_le_mul_right _ (by omega)
            omega
          generalize hbt : bytesOf y = yt at *
          by_cases hm : y ∈ P
          · rw [if_pos hm] at hE2
            rw [List.singleton_append, List.append_cons] at hE2
            obtain ⟨k, hk⟩ : ∃ k, k = P.idxOf y := ⟨_, rfl⟩
            rw [wordOf, if_pos hm, ← hk] at hFd
            have HFd := hid hFd
            have HE2 := hid hE2
            have HKE := hid hk
            obtain ⟨E, hEE⟩ : ∃ E, E = n + j + 1 := ⟨_, rfl⟩
            have hE3 : (n : Int) + (I : Int) - (N : Int) = (E : Int) := by have := hI.out; omega
            have HEE := hid hEE
            have hgk : decide ((0 : Int) ≤ (k : Int)) = true := decide_eq_true (by omega)
            clear hE2 hFd hk hQ hy hyb hed hE hEE hbt
            go_wp2_with (first
              | (go_at_call 14; refine (HFd.out).mono ?_; rintro e w8 ⟨rfl, rfl⟩)
              | (at_builtin; refine wpList_append_hits _ rfl (.tmp 42) (.tmp 51) rfl w.heap.size u10 K2 (asHits (hitsT P n (x.take N) ((x.drop N).take j)) ++ hitsN P (n + j + 1) ys) rfl (hown2.out.alloc _) _ [((E : Int), (k : Int))] rfl (readsH_built _ _ _ _) (by simp; omega) (by simp; have := hb2.out.size; omega) ?_; intro v' w7 hown7 hgrow7 hat7 hold7))
            have hbl4 := hid (((hb2.out.alloc hb2.out.size _).grown hgrow7 (by have := hb2.out.size; simp; omega) (fun g hg => (hown2.out.lt g hg).1)))
            have HO7 := hid hown7
            clear hown7 hgrow7 hat7 hold7
            go_roundw
            case rel =>
              refine ⟨M', K2 + 1, ys ++ [y], by go_num, by omega, by show _ = _; rw [hK2.out, List.length_append]; rfl, by rw [List.length_append]; simp; omega, HE2.out, ?_, hbl4.out⟩
              show World.ownsRow _ _ _ _ _ _ _
              rw [← hitsN_snoc, ← HKE.out, ← HEE.out, ← List.append_assoc]
              have h := HO7.out
              rw [HEE.out] at h ⊢
              exact h
            case measure => simp [intOf]
          · rw [if_neg hm, List.nil_append] at hE2
            rw [wordOf, if_neg hm] at hFd
            have HFd := hid hFd
            have HE2 := hid hE2
            clear hE2 hFd hQ hy hyb hed hE hbt
            go_wp2_with (go_at_call 14; refine (HFd.out).mono ?_; rintro e w8 ⟨rfl, rfl⟩)
            go_roundw
            case rel => exact ⟨M', K2, ys, by go_num, by omega, hK2.out, by omega, HE2.out, hown2.out, hb2.out⟩
            case measure => simp [intOf]
    · have hIT : I = T + 1 := by omega
      have hj : j = T - N := by have := hI.out; omega
      have ho := hown.out
      rw [List.take_of_length_le (l := x.drop N) (by rw [List.length_drop, HXL.out]; omega)] at ho
      have HO := hid (ownsRow_readsH ho)
      clear ho hown
      have hd1 : decide ((I : Int) ≤ (T : Int)) = false := decide_eq_false (by omega)
      have hd2 : decide (I ≤ T) = false := decide_eq_false (by omega)
      clear hIT hj
      go_wp2
      go_ret
      exact ⟨_, rfl, HO.out, hbl.out⟩
end Go.Proofs.YtcbnlhgkihhakaaGreat
