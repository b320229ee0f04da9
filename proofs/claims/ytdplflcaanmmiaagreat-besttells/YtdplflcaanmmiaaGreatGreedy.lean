/-
  Contracts of package greedy: Next, Parse.
-/
import Derived.Test.YtdplflcaanmmiaaGreatHitWords
namespace Go.Proofs.YtdplflcaanmmiaaGreat
open Go.ChangeShapes Go.WideShapes Go.ChangeAt Go.RowKit

/-- How many bytes greedy takes at the beginning of y, and the token. -/
def gN (L : List ByteArray) (y : List Nat) : Nat := firstT (L.map nums) 40 y
def gT (L : List ByteArray) (y : List Nat) : Nat := tokT (L.map nums) y (gN L y)

/-- All tokens of greedy. -/
def gA (L : List ByteArray) (y : List Nat) : List Nat := greedyT (L.map nums) 40 y

theorem gN_takes {L : List ByteArray} (hL : Fine L) : Takes (L.map nums) (gN L) := firstT_takes _ 40 (phrases_short hL)

theorem gA_nil (L : List ByteArray) : gA L [] = [] := rfl
theorem gA_cons {L : List ByteArray} (hL : Fine L) {y : List Nat} (hy : y ≠ []) : gA L y = gT L y :: gA L (y.drop (gN L y)) := parsT_cons _ _ (gN_takes hL) y hy

theorem gN_pos {L : List ByteArray} (hL : Fine L) {y : List Nat} (hy : y ≠ []) : 1 ≤ gN L y ∧ gN L y ≤ y.length := ⟨(gN_takes hL y hy).1, (gN_takes hL y hy).2.1⟩

theorem gT_none {L : List ByteArray} (hL : Fine L) {y : List Nat} (hy : y ≠ []) (h : standsT (L.map nums) 40 y = []) : gN L y = 1 ∧ gT L y = y.headD 0 := by
  have h1 : gN L y = 1 := by unfold gN firstT; rw [h]; rfl
  refine ⟨h1, ?_⟩
  unfold gT tokT
  rw [h1, if_neg]
  intro hm
  have h2 : 1 ∈ standsT (L.map nums) 40 y := (standsT_mem _ 40 (phrases_short hL) y 1).2 ⟨Nat.le_refl _, by have := List.length_pos_iff.2 hy; omega, hm⟩
  rw [h] at h2
  cases h2

theorem gT_some {L : List ByteArray} {y : List Nat} {m : Nat} {l : List Nat} (h : standsT (L.map nums) 40 y = m :: l) (hm : y.take m ∈ L.map nums) : gN L y = m ∧ gT L y = 256 + (L.map nums).idxOf (y.take m) := by
  have h1 : gN L y = m := by unfold gN firstT; rw [h]; rfl
  refine ⟨h1, ?_⟩
  unfold gT tokT
  rw [h1, if_pos hm]

theorem next_off (w : World) (d : Value) (b : ByteArray) (at0 : Int) (h : at0 < 0 ∨ (b.size : Int) ≤ at0) :
    Calls Tryz.prog 55 #[d, .string b, .int .i64 at0] w fun e w' => e = .returned (.tuple #[.int .i64 0, .int .i64 0]) ∧ w' = w := by
  by_cases h0 : at0 < 0
  · go_enter Tryz.func55, Tryz.ntmps55
    go_wp2
    all_goals refine bodyPost_ret (by simp [results, Tryz.results55, go_sem]) rfl ⟨rfl, rfl⟩
  · have h1 : decide (at0 < 0) = false := decide_eq_false h0
    have h2 : decide ((b.size : Int) ≤ at0) = true := decide_eq_true (by omega)
    go_enter Tryz.func55, Tryz.ntmps55
    go_wp2
    all_goals refine bodyPost_ret (by simp [results, Tryz.results55, go_sem]) rfl ⟨rfl, rfl⟩

set_option maxRecDepth 20000 in
set_option maxHeartbeats 4000000 in
theorem next_any {w : World} {d : Value} {L : List ByteArray} (h : DictV w d L) (hL : Fine L) (b : ByteArray) (hb : b.size ≤ 1000) (i : Nat) (hi : i < b.size) :
    Calls Tryz.prog 55 #[d, .string b, .int .i64 (i : Int)] w fun e w' => e = .returned (.tuple #[.int .i64 (gT L ((nums b).drop i) : Int), .int .i64 (gN L ((nums b).drop i) : Int)]) ∧ w' = w := by
  have hFi := (fine_iff L).1 hL
  have hl100 := hL.1
  have HLG := hid (longest_any h (by omega) hFi.2.1 b hb i hi)
  have hy : (nums b).drop i ≠ [] := by
    intro e
    have := congrArg List.length e
    rw [List.length_drop, nums_length] at this
    simp at this
    omega
  have hix := byte_index b i hi
  have hdr := drop_nums b i hi
  obtain ⟨c, hc⟩ : ∃ c, c = (b[i]'hi).toNat := ⟨_, rfl⟩
  rw [← hc] at hix hdr
  have hc256 : c < 256 := by rw [hc]; exact UInt8.toNat_lt _
  have hd1 : decide ((i : Int) < 0) = false := decide_eq_false (by omega)
  have hd2 : decide ((b.size : Int) ≤ (i : Int)) = false := decide_eq_false (by omega)
  by_cases hS : standsT (L.map nums) 40 ((nums b).drop i) = []
  · obtain ⟨e1, e2⟩ := gT_none hL hy hS
    rw [e1, e2, hdr, List.headD_cons]
    have HLN : Hid (Calls Tryz.prog 73 #[d, .string b, .int .i64 (i : Int)] w fun e w' => e = .returned (.tuple #[.int .i64 (-1), .int .i64 0]) ∧ w' = w) := by
      refine (HLG.out).mono ?_
      rintro e w' ⟨k, m, rfl, hg, rfl⟩
      rcases lg_stands hL hg with ⟨_, rfl, rfl⟩ | ⟨l, h1, _⟩
      · exact ⟨rfl, rfl⟩
      · rw [hS] at h1; cases h1
    clear HLG hS hy hdr hc e1 e2 hFi hL h
    go_enter Tryz.func55, Tryz.ntmps55
    go_wp2_with (go_at_call 73; refine (HLN.out).mono ?_; rintro e w1 ⟨rfl, rfl⟩)
    all_goals refine bodyPost_ret (by simp [results, Tryz.results55, go_sem]) rfl ⟨rfl, rfl⟩
  · obtain ⟨m, l, hml⟩ : ∃ m l, standsT (L.map nums) 40 ((nums b).drop i) = m :: l := List.exists_cons_of_ne_nil hS
    have hmm := (standsT_mem _ 40 (phrases_short hL) ((nums b).drop i) m).1 (by rw [hml]; simp)
    have hm40 := phrases_short hL _ hmm.2.2
    rw [List.length_take] at hm40
    obtain ⟨e1, e2⟩ := gT_some hml hmm.2.2
    obtain ⟨id, hid0⟩ : ∃ id, id = (L.map nums).idxOf (((nums b).drop i).take m) := ⟨_, rfl⟩
    have hidl : id < L.length := by rw [hid0]; simpa using List.idxOf_lt_length_of_mem hmm.2.2
    rw [e1, e2, ← hid0]
    have HLN : Hid (Calls Tryz.prog 73 #[d, .string b, .int .i64 (i : Int)] w fun e w' => e = .returned (.tuple #[.int .i64 (id : Int), .int .i64 (m : Int)]) ∧ w' = w) := by
      refine (HLG.out).mono ?_
      rintro e w' ⟨k, m2, rfl, hg, rfl⟩
      rcases lg_stands hL hg with ⟨h0, rfl, rfl⟩ | ⟨l2, h1, _, _, h2⟩
      · rw [hml] at h0; cases h0
      · rw [hml] at h1
        injection h1 with h3 h4
        subst h3
        rw [h2, ← hid0]
        exact ⟨rfl, rfl⟩
    have hm1 := hmm.1
    have hm1000 : m ≤ 1000 := by have := hmm.2.1; rw [List.length_drop, nums_length] at this; omega
    have hq : ((m : Int) == 0) = false := beq_false_of_ne (by omega)
    clear HLG hS hy hdr hc e1 e2 hFi hL h hml hmm hid0 hix
    go_enter Tryz.func55, Tryz.ntmps55
    go_wp2_with (go_at_call 73; refine (HLN.out).mono ?_; rintro e w1 ⟨rfl, rfl⟩)
    all_goals refine bodyPost_ret (by simp [results, Tryz.results55, go_sem]) rfl ⟨rfl, rfl⟩

set_option maxRecDepth 20000 in
set_option maxHeartbeats 4000000 in
theorem parse_any {w : World} {d : Value} {L : List ByteArray} (h : DictV w d L) (hL : Fine L) (b : ByteArray) (hb : b.size ≤ 1000) :
    Calls Tryz.prog 19 #[d, .string b] w fun e w' => ∃ v', e = .returned v' ∧ w'.ownsRow w.heap.size 3 1 v' (gA L (nums b)).length (nats (ints (gA L (nums b)))) ∧ Below w.heap.size w w' := by
  have H := hid h
  have HL := hid hL
  have hd0 : decide ((1024 : Int) < (b.size : Int)) = false := decide_eq_false (by omega)
  have hd00 : decide (1024 < b.size) = false := decide_eq_false (by omega)
  clear h hL
  go_enter Tryz.func19, Tryz.ntmps19
  go_wp2
  go_loopw [5, 6] (fun u vi wr => ∃ (a : Nat) (ts : List Nat), vi = .int .i64 a ∧ a ≤ b.size ∧ ts.length ≤ a ∧ Hid (wr.ownsRow w.heap.size 3 1 u (ints ts).length (nats (ints ts))) ∧ Hid (ts ++ gA L ((nums b).drop a) = gA L (nums b)) ∧ Hid (Below w.heap.size w wr)) (fun _ vi _ => b.size - (intOf vi).toNat)
  case atStart => exact ⟨0, [], rfl, by omega, by simp, World.ownsRow_nil _ _ _ _, by show _ = _; simp, Below.refl _ _⟩
  case round =>
    obtain ⟨a, ts, rfl, ha, hts, hown, heq, hbw⟩ := hrel
    by_cases hlt : a < b.size
    · have hd1 : decide ((a : Int) < (b.size : Int)) = true := decide_eq_true (by omega)
      have hy : (nums b).drop a ≠ [] := by
        intro e
        have := congrArg List.length e
        rw [List.length_drop, nums_length] at this
        simp at this
        omega
      have HN := hid (next_any (H.out.below hbw.out) HL.out b hb a hlt)
      have hp := gN_pos HL.out hy
      have he := heq.out
      rw [gA_cons HL.out hy, List.drop_drop] at he
      obtain ⟨t, ht⟩ : ∃ t, t = gT L ((nums b).drop a) := ⟨_, rfl⟩
      obtain ⟨n, hn⟩ : ∃ n, n = gN L ((nums b).drop a) := ⟨_, rfl⟩
      rw [← ht, ← hn] at HN he
      rw [← hn, List.length_drop, nums_length] at hp
      have hn1 := hp.1
      have hn2 : a + n ≤ b.size := by omega
      have HE : Hid ((ts ++ [t]) ++ gA L ((nums b).drop (a + n)) = gA L (nums b)) := by show _ = _; rw [List.append_assoc]; exact he
      have hw : Hid (w.heap.size ≤ wr.heap.size) := hbw.out.size
      clear he heq hy hp ht hn
      go_wp2_with (first
        | (go_at_call 55; refine (HN.out).mono ?_; rintro e w1 ⟨rfl, rfl⟩)
        | (at_builtin; refine wpList_append_ints rfl (.tmp 23) (.tmp 25) rfl w.heap.size _ (ints ts) rfl (hown.out.alloc _) _ [(t : Int)] rfl (reads_built _ #[.int .i64 (t : Int)] _ 1 rfl) (by rw [ints_length]; simp; omega) (by have := hw.out; simp; omega) ?_; intro v' w4 hown4 hb4))
      have HB4 : Hid (Below w.heap.size w w4) := (hbw.out.alloc hbw.out.size _).trans hb4
      have HO4 : Hid (w4.ownsRow w.heap.size 3 1 v' (ints (ts ++ [t])).length (nats (ints (ts ++ [t])))) := by
        have e : ints (ts ++ [t]) = ints ts ++ [(t : Int)] := by simp [ints]
        show World.ownsRow _ _ _ _ _ _ _
        rw [e]; exact hown4
      clear hown4 hb4 hown hbw
      go_roundw
      case rel => exact ⟨a + n, ts ++ [t], by go_num, by omega, by simp; omega, HO4.out, HE.out, HB4.out⟩
      case measure => simp [intOf]; omega
    · obtain rfl : a = b.size := by omega
      have hd : (nums b).drop b.size = [] := List.drop_eq_nil_of_le (by rw [nums_length]; omega)
      have he := heq.out
      rw [hd, gA_nil, List.append_nil] at he
      subst he
      have ho := hown.out
      rw [ints_length] at ho
      have HO := hid ho
      clear ho hown heq hd
      go_wp2
      go_ret
      exact ⟨_, rfl, HO.out, hbw.out⟩
end Go.Proofs.YtdplflcaanmmiaaGreat
