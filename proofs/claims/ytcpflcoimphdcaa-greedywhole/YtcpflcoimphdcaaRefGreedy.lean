/-
  Contracts of the document's own First, Token, Greedy.
-/
import Derived.Test.YtcpflcoimphdcaaRefStands
import Derived.Test.YtcpflcoimphdcaaGreedy
namespace Go.Proofs.Ytcpflcoimphdcaa
open Go.ChangeShapes Go.WideShapes Go.ChangeAt Go.RowKit

theorem drop_some {b : ByteArray} {i : Nat} (hi : i < b.size) : (nums b).drop i ≠ [] := by
  intro e
  have := congrArg List.length e
  rw [List.length_drop, nums_length] at this
  simp at this
  omega

theorem standsT_few3 (P : List (List Nat)) (m : Nat) (x : List Nat) : (standsT P m x).length ≤ m := by
  unfold standsT
  refine Nat.le_trans (List.length_filter_le _ _) ?_
  simp
  omega

set_option maxRecDepth 20000 in
set_option maxHeartbeats 2000000 in
theorem first_any {w : World} {v : Value} {L : List ByteArray} (hv : Reads w v (strs L)) (hl : L.length ≤ 1000) (b : ByteArray) (hb : b.size ≤ 1000) (i : Nat) (hi : i < b.size) :
    Calls Try.prog 12 #[v, .string b, .int .i64 (i : Int)] w fun e w' => e = .returned (.int .i64 (gN L ((nums b).drop i) : Int)) ∧ Below w.heap.size w w' := by
  have HV := hid hv
  clear hv
  cases hS : standsT (L.map nums) 40 ((nums b).drop i) with
  | nil =>
    have e1 : gN L ((nums b).drop i) = 1 := by unfold gN firstT; rw [hS]; rfl
    have HS := hid hS
    rw [e1]
    clear e1 hS
    go_enter Try.func12, Try.ntmps12
    go_wp2_with (go_at_call 24; refine (stands_any HV.out hl b hb i hi).mono ?_; rintro e wS ⟨vS, rfl, hoS, hbS⟩; rw [HS.out] at hoS; obtain ⟨aS, cS, rfl⟩ := ownsRow_slice hoS; have HB := hid hbS; clear hoS hbS)
    go_ret
    exact ⟨rfl, HB.out⟩
  | cons m l =>
    have e1 : gN L ((nums b).drop i) = m := by unfold gN firstT; rw [hS]; rfl
    have hq40 := standsT_few3 (L.map nums) 40 ((nums b).drop i)
    rw [hS] at hq40
    have HS := hid hS
    rw [e1]
    obtain ⟨q, hq⟩ : ∃ q, q = (m :: l).length := ⟨_, rfl⟩
    have HQ := hid hq
    have hq0 : 0 < q := by rw [hq]; simp
    rw [← hq] at hq40
    have hx : decide ((0 : Int) < (q : Int)) = true := decide_eq_true (by omega)
    have hx2 : decide (0 < q) = true := decide_eq_true (by omega)
    have hx3 : decide ((0 : Int) ≤ 0 ∧ (0 : Int) < (q : Int)) = true := decide_eq_true ⟨by omega, by omega⟩
    clear e1 hS hq
    go_enter Try.func12, Try.ntmps12
    go_wp2_with (go_at_call 24; refine (stands_any HV.out hl b hb i hi).mono ?_; rintro e wS ⟨vS, rfl, hoS, hbS⟩; rw [HS.out, ← HQ.out] at hoS; obtain ⟨gS, cS, rfl, _, _⟩ := hoS.form (by omega); have eS := hoS.cellAt 0 (by omega); rw [numsI_at _ 0 (by simp)] at eS; simp only [List.getElem_cons_zero] at eS; have HB := hid hbS; clear hoS hbS)
    go_ret
    exact ⟨rfl, HB.out⟩

set_option maxRecDepth 20000 in
set_option maxHeartbeats 2000000 in
theorem token_any {w : World} {v : Value} {L : List ByteArray} (hv : Reads w v (strs L)) (hl : L.length ≤ 1000) (b : ByteArray) (hb : b.size ≤ 1000) (i n : Nat) (hi : i < b.size) (hn : i + n ≤ b.size) :
    Calls Try.prog 13 #[v, .string b, .int .i64 (i : Int), .int .i64 (n : Int)] w fun e w' => e = .returned (.int .i64 (tokT (L.map nums) ((nums b).drop i) n : Int)) ∧ w' = w := by
  obtain ⟨j, hj⟩ : ∃ j, j = i + n := ⟨_, rfl⟩
  have hsum : (i : Int) + (n : Int) = (j : Int) := by omega
  have hsl := fun W => slice_amid b i j (by omega) (by omega) W
  have hFd := find_word (s := b.extract i j) hv (by omega)
  rw [hj, nums_amid, ← hj] at hFd
  have hix := byte_index b i hi
  have hdr := drop_nums b i hi
  obtain ⟨c, hc⟩ : ∃ c, c = (b[i]'hi).toNat := ⟨_, rfl⟩
  rw [← hc] at hix hdr
  obtain ⟨s, hs⟩ : ∃ s, s = b.extract i j := ⟨_, rfl⟩
  rw [← hs] at hsl hFd
  by_cases hm : ((nums b).drop i).take n ∈ L.map nums
  · have e1 : tokT (L.map nums) ((nums b).drop i) n = 256 + (L.map nums).idxOf (((nums b).drop i).take n) := by unfold tokT; rw [if_pos hm]
    have hk1 : (L.map nums).idxOf (((nums b).drop i).take n) < L.length := by simpa using List.idxOf_lt_length_of_mem hm
    rw [e1]
    simp only [wordOf, if_pos hm] at hFd
    obtain ⟨k, hk⟩ : ∃ k, k = (L.map nums).idxOf (((nums b).drop i).take n) := ⟨_, rfl⟩
    rw [← hk] at hFd hk1 ⊢
    have HFd := hid hFd
    have hgk : decide ((0 : Int) ≤ (k : Int)) = true := decide_eq_true (by omega)
    clear hFd hk hm hs hj hdr hc hix e1 hv
    go_enter Try.func13, Try.ntmps13
    go_wp2_with (go_at_call 25; refine (HFd.out).mono ?_; rintro e w8 ⟨rfl, rfl⟩)
    go_ret
    exact ⟨rfl, rfl⟩
  · have e1 : tokT (L.map nums) ((nums b).drop i) n = c := by unfold tokT; rw [if_neg hm, hdr, List.headD_cons]
    rw [e1]
    simp only [wordOf, if_neg hm] at hFd
    have HFd := hid hFd
    have hc256 : c < 256 := by rw [hc]; exact UInt8.toNat_lt _
    clear hFd hm hs hj hdr hc e1 hv
    go_enter Try.func13, Try.ntmps13
    go_wp2_with (go_at_call 25; refine (HFd.out).mono ?_; rintro e w8 ⟨rfl, rfl⟩)
    go_ret
    exact ⟨rfl, rfl⟩

set_option maxRecDepth 20000 in
set_option maxHeartbeats 4000000 in
theorem refGreedy_any {w : World} {v : Value} {L : List ByteArray} (hv : Reads w v (strs L)) (hL : Fine L) (b : ByteArray) (hb : b.size ≤ 1000) :
    Calls Try.prog 15 #[v, .string b] w fun e w' => ∃ v', e = .returned v' ∧ w'.ownsRow w.heap.size 3 1 v' (gA L (nums b)).length (nats (ints (gA L (nums b)))) ∧ Below w.heap.size w w' := by
  have HV := hid hv
  have HL := hid hL
  have hl := hL.1
  clear hv hL
  go_enter Try.func15, Try.ntmps15
  go_wp2
  go_loopw [5, 6] (fun u vi wr => ∃ (a : Nat) (ts : List Nat), vi = .int .i64 a ∧ a ≤ b.size ∧ ts.length ≤ a ∧ Hid (wr.ownsRow w.heap.size 3 1 u (ints ts).length (nats (ints ts))) ∧ Hid (ts ++ gA L ((nums b).drop a) = gA L (nums b)) ∧ Hid (Below w.heap.size w wr)) (fun _ vi _ => b.size - (intOf vi).toNat)
  case atStart => exact ⟨0, [], rfl, by omega, by simp, World.ownsRow_nil _ _ _ _, by show _ = _; simp, Below.refl _ _⟩
  case round =>
    obtain ⟨a, ts, rfl, ha, hts, hown, heq, hbw⟩ := hrel
    by_cases hlt : a < b.size
    · have hd1 : decide ((a : Int) < (b.size : Int)) = true := decide_eq_true (by omega)
      have hy := drop_some hlt
      have hp := gN_pos HL.out hy
      have he := heq.out
      rw [gA_cons HL.out hy, List.drop_drop] at he
      obtain ⟨t, ht⟩ : ∃ t, t = gT L ((nums b).drop a) := ⟨_, rfl⟩
      obtain ⟨n, hn⟩ : ∃ n, n = gN L ((nums b).drop a) := ⟨_, rfl⟩
      have HF := hid (fun W (hW : Below w.heap.size w W) => first_any (HV.out.below hW) (by omega) b hb a hlt)
      rw [← hn] at HF
      rw [← hn, List.length_drop, nums_length] at hp
      have hn1 := hp.1
      have hn2 : a + n ≤ b.size := by omega
      have HT := hid (fun W (hW : Below w.heap.size w W) => token_any (HV.out.below hW) (by omega) b hb a n hlt hn2)
      have etok : tokT (L.map nums) ((nums b).drop a) n = t := by rw [ht, hn]; rfl
      rw [etok] at HT
      rw [← ht, ← hn] at he
      have HE : Hid ((ts ++ [t]) ++ gA L ((nums b).drop (a + n)) = gA L (nums b)) := by show _ = _; rw [List.append_assoc]; exact he
      have hw : Hid (w.heap.size ≤ wr.heap.size) := hbw.out.size
      clear he heq hy hp ht hn etok
      go_wp2_with (first
        | (go_at_call 12; refine (HF.out _ hbw.out).mono ?_; rintro e w1 ⟨rfl, hb1⟩; have HB1 := hid (hbw.out.trans (hb1.mono hw.out)); have HO1 := hid (ownsRow_below hown.out hb1); clear hb1)
        | (go_at_call 13; refine (HT.out _ HB1.out).mono ?_; rintro e w2 ⟨rfl, rfl⟩)
        | (at_builtin; refine wpList_append_ints rfl (.tmp 16) (.tmp 22) rfl w.heap.size _ (ints ts) rfl (HO1.out.alloc _) _ [(t : Int)] rfl (reads_built _ #[.int .i64 (t : Int)] _ 1 rfl) (by rw [ints_length]; simp; omega) (by have := HB1.out.size; simp; omega) ?_; intro v' w4 hown4 hb4))
      have HB4 : Hid (Below w.heap.size w w4) := (HB1.out.alloc HB1.out.size _).trans hb4
      have HO4 : Hid (w4.ownsRow w.heap.size 3 1 v' (ints (ts ++ [t])).length (nats (ints (ts ++ [t])))) := by
        have e : ints (ts ++ [t]) = ints ts ++ [(t : Int)] := by simp [ints]
        show World.ownsRow _ _ _ _ _ _ _
        rw [e]; exact hown4
      clear hown4 hb4 hown hbw HB1 HO1
      go_roundw
      case rel => exact ⟨a + n, ts ++ [t], by go_num, by omega, by simp; omega, HO4.out, HE.out, HB4.out⟩
      case measure => simp [intOf]; omega
    · obtain rfl : a = b.size := by omega
      have hd : (nums b).drop b.size = [] := List.drop_eq_nil_of_le (by rw [nums_length]; omega)
      have he := heq.out
      rw [hd, gA_nil, List.append_nil] at he
      subst he
      have ho := hown.out
      rw [ints_length] at ho
      have HO := hid ho
      clear ho hown heq hd
      go_wp2
      go_ret
      exact ⟨_, rfl, HO.out, hbw.out⟩
end Go.Proofs.Ytcpflcoimphdcaa
