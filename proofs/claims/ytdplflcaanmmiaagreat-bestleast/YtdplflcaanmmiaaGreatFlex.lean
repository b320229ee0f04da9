/-
  Contracts of package flex: Reach, Next, Parse.
-/
import Derived.Test.YtdplflcaanmmiaaGreatGreedy
import Derived.Test.YtdplflcaanmmiaaGreatFlexMath
import Derived.IntWalk
namespace Go.Proofs.YtdplflcaanmmiaaGreat
open Go.ChangeShapes Go.WideShapes Go.ChangeAt Go.RowKit

/-- How far one comes by n bytes, counted from the beginning of y. -/
def rN (L : List ByteArray) (y : List Nat) (n : Nat) : Nat := reachT (L.map nums) 40 y n

/-- How many bytes flex takes at the beginning of y, and the token; all its tokens. -/
def xN (L : List ByteArray) (y : List Nat) : Nat := secondT (L.map nums) 40 y
def xT (L : List ByteArray) (y : List Nat) : Nat := tokT (L.map nums) y (xN L y)
def xA (L : List ByteArray) (y : List Nat) : List Nat := flexT (L.map nums) 40 y

theorem xN_takes {L : List ByteArray} (hL : Fine L) : Takes (L.map nums) (xN L) := secondT_takes _ 40 (phrases_short hL)
theorem xA_nil (L : List ByteArray) : xA L [] = [] := rfl
theorem xA_cons {L : List ByteArray} (hL : Fine L) {y : List Nat} (hy : y ≠ []) : xA L y = xT L y :: xA L (y.drop (xN L y)) := parsT_cons _ _ (xN_takes hL) y hy
theorem xN_pos {L : List ByteArray} (hL : Fine L) {y : List Nat} (hy : y ≠ []) : 1 ≤ xN L y ∧ xN L y ≤ y.length := ⟨(xN_takes hL y hy).1, (xN_takes hL y hy).2.1⟩

theorem drop_more {b : ByteArray} {i : Nat} (hi : i < b.size) : (nums b).drop i ≠ [] := by
  intro e
  have := congrArg List.length e
  rw [List.length_drop, nums_length] at this
  simp at this
  omega

theorem rN_le {L : List ByteArray} (hL : Fine L) (y : List Nat) (n : Nat) (h : n ≤ y.length) : rN L y n ≤ y.length ∧ n ≤ rN L y n := by
  unfold rN reachT
  split
  · exact ⟨Nat.le_refl _, h⟩
  · rename_i hne
    have hy : y.drop n ≠ [] := by
      intro e
      have := congrArg List.length e
      rw [List.length_drop] at this
      simp at this
      omega
    have := firstT_pos (L.map nums) 40 (phrases_short hL) _ hy
    rw [List.length_drop] at this
    omega

theorem reach_off (w : World) (d : Value) (b : ByteArray) (at0 n0 : Int) (hb : b.size ≤ 1000) (hr : n0 ≤ 9223372036854775807) (h : at0 < 0 ∨ n0 < 0 ∨ (b.size : Int) < at0 + n0) (hat : at0 ≤ 9223372036854775807) :
    Calls Tryz.prog 74 #[d, .string b, .int .i64 at0, .int .i64 n0] w fun e w' => e = .returned (.int .i64 0) ∧ w' = w := by
  by_cases h0 : at0 < 0
  · have h1 : decide (at0 < 0) = true := decide_eq_true h0
    go_enter Tryz.func74, Tryz.ntmps74
    go_wp2
    go_ret
    exact ⟨rfl, rfl⟩
  · have h1 : decide (at0 < 0) = false := decide_eq_false h0
    by_cases h2 : n0 < 0
    · have h3 : decide (n0 < 0) = true := decide_eq_true h2
      go_enter Tryz.func74, Tryz.ntmps74
      go_wp2
      go_ret
      exact ⟨rfl, rfl⟩
    · have h3 : decide (n0 < 0) = false := decide_eq_false h2
      have h4 : IntKind.i64.wrap ((b.size : Int) - at0) = (b.size : Int) - at0 := Go.IntWalk.i64_in _ (by omega)
      have h5 : decide ((b.size : Int) - at0 < n0) = true := decide_eq_true (by omega)
      go_enter Tryz.func74, Tryz.ntmps74
      go_wp2
      go_ret
      exact ⟨rfl, rfl⟩

set_option maxRecDepth 20000 in
set_option maxHeartbeats 2000000 in
theorem reach_any {w : World} {d : Value} {L : List ByteArray} (h : DictV w d L) (hL : Fine L) (b : ByteArray) (hb : b.size ≤ 1000) (i n : Nat) (hin : i + n ≤ b.size) :
    Calls Tryz.prog 74 #[d, .string b, .int .i64 (i : Int), .int .i64 (n : Int)] w fun e w' => e = .returned (.int .i64 ((i + rN L ((nums b).drop i) n : Nat) : Int)) ∧ w' = w := by
  have hd1 : decide ((i : Int) < 0) = false := decide_eq_false (by omega)
  have hd2 : decide ((n : Int) < 0) = false := decide_eq_false (by omega)
  obtain ⟨k, hk⟩ : ∃ k, k = b.size - i := ⟨_, rfl⟩
  have hsub : (b.size : Int) - (i : Int) = (k : Int) := by omega
  have hd3 : decide ((k : Int) < (n : Int)) = false := decide_eq_false (by omega)
  have hd4 : decide (k < n) = false := decide_eq_false (by omega)
  have hk1 : k ≤ 1000 := by omega
  have hi1 : i ≤ 1000 := by omega
  have hn1 : n ≤ 1000 := by omega
  obtain ⟨j, hj⟩ : ∃ j, j = i + n := ⟨_, rfl⟩
  have hsum : (i : Int) + (n : Int) = (j : Int) := by omega
  have hlen : ((nums b).drop i).length = b.size - i := by rw [List.length_drop, nums_length]
  by_cases hlt : j < b.size
  · have HN := hid (next_any h hL b hb j hlt)
    have e1 : rN L ((nums b).drop i) n = n + gN L ((nums b).drop j) := by
      unfold rN reachT
      rw [if_neg (by rw [hlen]; omega), List.drop_drop, ← hj]
      rfl
    have hp := gN_pos hL (drop_more hlt)
    rw [List.length_drop, nums_length] at hp
    rw [e1]
    obtain ⟨t, ht⟩ : ∃ t, t = gT L ((nums b).drop j) := ⟨_, rfl⟩
    obtain ⟨g, hg⟩ : ∃ g, g = gN L ((nums b).drop j) := ⟨_, rfl⟩
    rw [← hg] at hp
    rw [← ht, ← hg] at HN
    rw [← hg]
    have hg1 : j + g ≤ 1000 := by omega
    have hj1 : j ≤ 1000 := by omega
    have hjl : j ≤ i + n := by omega
    have hjg : i + n ≤ j := by omega
    clear e1 hlen hp ht hg h hL hj hk
    go_enter Tryz.func74, Tryz.ntmps74
    go_wp2_with (go_at_call 55; refine (HN.out).mono ?_; rintro e w1 ⟨rfl, rfl⟩)
    go_ret
    exact ⟨by rw [show (((i + (n + g) : Nat)) : Int) = (j : Int) + (g : Int) by omega]; rfl, rfl⟩
  · have HN := hid (next_off w d b (j : Int) (.inr (by omega)))
    have e1 : rN L ((nums b).drop i) n = n := by
      unfold rN reachT
      rw [if_pos (by rw [hlen]; omega), hlen]
      omega
    rw [e1]
    have hj1 : j ≤ 1000 := by omega
    have hjl : j ≤ i + n := by omega
    have hjg : i + n ≤ j := by omega
    clear e1 hlen h hL hj hk
    go_enter Tryz.func74, Tryz.ntmps74
    go_wp2_with (go_at_call 55; refine (HN.out).mono ?_; rintro e w1 ⟨rfl, rfl⟩)
    go_ret
    exact ⟨by rw [show (((i + n : Nat)) : Int) = (j : Int) by omega]; simp, rfl⟩

/-- Of the byte and the first i phrases, as far as they stand at the beginning of y, the one by which one comes the farthest; of several the longest. -/
def FxAt (L : List ByteArray) (y : List Nat) (i t m : Nat) : Prop :=
  ((m = 1 ∧ t = y.headD 0 ∧ ∀ id (h : id < L.length), id < i → (L[id]'h).size = 1 → ¬ nums (L[id]'h) <+: y) ∨ ∃ (id : Nat) (h : id < L.length), id < i ∧ t = 256 + id ∧ m = (L[id]'h).size ∧ nums (L[id]'h) <+: y)
  ∧ (rN L y 1 < rN L y m ∨ rN L y 1 = rN L y m ∧ 1 ≤ m)
  ∧ ∀ id (h : id < L.length), id < i → nums (L[id]'h) <+: y → (rN L y (L[id]'h).size < rN L y m ∨ rN L y (L[id]'h).size = rN L y m ∧ (L[id]'h).size ≤ m)

theorem fxAt_zero (L : List ByteArray) (y : List Nat) : FxAt L y 0 (y.headD 0) 1 :=
  ⟨.inl ⟨rfl, rfl, fun _ _ h => by omega⟩, .inr ⟨rfl, Nat.le_refl _⟩, fun _ _ h => by omega⟩

/-- It does not stand there. -/
theorem FxAt.none {L : List ByteArray} {y : List Nat} {i t m : Nat} (h : FxAt L y i t m) (hi : i < L.length) (hs : ¬ nums (L[i]'hi) <+: y) : FxAt L y (i + 1) t m := by
  obtain ⟨h1, h2, h3⟩ := h
  refine ⟨?_, h2, fun id hd hl hp => ?_⟩
  · rcases h1 with ⟨a, b, c⟩ | ⟨id, a, b, c⟩
    · refine .inl ⟨a, b, fun id hd hl h1 hp => ?_⟩
      by_cases e : id = i
      · subst e; exact hs hp
      · exact c id hd (by omega) h1 hp
    · exact .inr ⟨id, a, by omega, c⟩
  · by_cases e : id = i
    · subst e; exact absurd hp hs
    · exact h3 id hd (by omega) hp

/-- It stands there, and one does not come as far by it. -/
theorem FxAt.less {L : List ByteArray} {y : List Nat} {i t m : Nat} (h : FxAt L y i t m) (hi : i < L.length) (hs : rN L y (L[i]'hi).size < rN L y m ∨ rN L y (L[i]'hi).size = rN L y m ∧ (L[i]'hi).size < m) : FxAt L y (i + 1) t m := by
  obtain ⟨h1, h2, h3⟩ := h
  refine ⟨?_, h2, fun id hd hl hp => ?_⟩
  · rcases h1 with ⟨a, b, c⟩ | ⟨id, a, b, c⟩
    · refine .inl ⟨a, b, fun id hd hl h1 hp => ?_⟩
      by_cases e : id = i
      · subst e
        rw [h1, a] at hs
        omega
      · exact c id hd (by omega) h1 hp
    · exact .inr ⟨id, a, by omega, c⟩
  · by_cases e : id = i
    · subst e; clear h1; omega
    · exact h3 id hd (by omega) hp

/-- It stands there, and one comes as far by it. -/
theorem FxAt.more {L : List ByteArray} {y : List Nat} {i t m : Nat} (h : FxAt L y i t m) (hi : i < L.length) (hp : nums (L[i]'hi) <+: y) (hs : rN L y m < rN L y (L[i]'hi).size ∨ rN L y (L[i]'hi).size = rN L y m ∧ m ≤ (L[i]'hi).size) : FxAt L y (i + 1) (256 + i) (L[i]'hi).size := by
  obtain ⟨h1, h2, h3⟩ := h
  clear h1
  refine ⟨.inr ⟨i, hi, by omega, rfl, rfl, hp⟩, by omega, fun id hd hl hp2 => ?_⟩
  by_cases e : id = i
  · subst e; exact .inr ⟨rfl, Nat.le_refl _⟩
  · have := h3 id hd (by omega) hp2
    omega

/-- Behind all phrases it is what flex takes. -/
theorem FxAt.all {L : List ByteArray} {y : List Nat} {t m : Nat} (hL : Fine L) (hy : y ≠ []) (h : FxAt L y L.length t m) : m = xN L y ∧ t = xT L y := by
  have hS := fun n => standsT_mem (L.map nums) 40 (phrases_short hL) y n
  have hpos : 0 < y.length := List.length_pos_iff.2 hy
  have hin : ∀ id (hid : id < L.length), nums (L[id]'hid) <+: y → (L[id]'hid).size ∈ lensT (L.map nums) 40 y ∧ y.take (L[id]'hid).size = nums (L[id]'hid) := by
    intro id hid hp
    have e := List.prefix_iff_eq_take.1 hp
    rw [nums_length] at e
    have hl := hp.length_le
    rw [nums_length] at hl
    exact ⟨(lensT_mem _ _ _ _).2 (.inl ((hS _).2 ⟨(((fine_iff L).1 hL).2.1 _ (List.getElem_mem hid)).1, hl, by rw [← e]; exact List.mem_map.2 ⟨_, List.getElem_mem hid, rfl⟩⟩)), e.symm⟩
  obtain ⟨h1, h2, h3⟩ := h
  have hmem : m ∈ lensT (L.map nums) 40 y := by
    rcases h1 with ⟨rfl, _, _⟩ | ⟨id, hd, _, _, rfl, hp⟩
    · exact (lensT_mem _ _ _ _).2 (.inr rfl)
    · exact (hin id hd hp).1
  have hall : ∀ n ∈ lensT (L.map nums) 40 y, rN L y n < rN L y m ∨ rN L y n = rN L y m ∧ n ≤ m := by
    intro n hn
    rcases (lensT_mem _ _ _ _).1 hn with hn | rfl
    · obtain ⟨g1, g2, g3⟩ := (hS n).1 hn
      obtain ⟨hid, e⟩ := text_of_id g3
      have hp : nums (L[(L.map nums).idxOf (y.take n)]'hid) <+: y := by rw [e]; exact List.take_prefix _ _
      have hsz : (L[(L.map nums).idxOf (y.take n)]'hid).size = n := by rw [← nums_length, e, List.length_take]; omega
      have := h3 _ hid hid hp
      rw [hsz] at this
      exact this
    · exact h2
  have hb := secondT_best (L.map nums) 40 (phrases_short hL) y m hmem
  have hb2 := hall _ (secondT_mem (L.map nums) 40 y)
  have hm : m = xN L y := by
    unfold rN at hb2
    unfold xN
    rcases hb2 with h | ⟨h, h4⟩
    · omega
    · have := hb.2 h.symm
      omega
  refine ⟨hm, ?_⟩
  unfold xT tokT
  rw [← hm]
  rcases h1 with ⟨rfl, rfl, hno⟩ | ⟨id, hd, _, rfl, rfl, hp⟩
  · rw [if_neg]
    intro hmm
    obtain ⟨hid, e⟩ := text_of_id hmm
    refine hno _ hid hid ?_ (by rw [e]; exact List.take_prefix _ _)
    rw [← nums_length, e, List.length_take]
    omega
  · have e := (hin id hd hp).2
    rw [if_pos (by rw [e]; exact List.mem_map.2 ⟨_, List.getElem_mem hd, rfl⟩), e, id_of_text hL hd]
theorem nextX_off (w : World) (d : Value) (b : ByteArray) (at0 : Int) (h : at0 < 0 ∨ (b.size : Int) ≤ at0) :
    Calls Tryz.prog 56 #[d, .string b, .int .i64 at0] w fun e w' => e = .returned (.tuple #[.int .i64 0, .int .i64 0]) ∧ w' = w := by
  by_cases h0 : at0 < 0
  · go_enter Tryz.func56, Tryz.ntmps56
    go_wp2
    all_goals refine bodyPost_ret (by simp [results, Tryz.results56, go_sem]) rfl ⟨rfl, rfl⟩
  · have h1 : decide (at0 < 0) = false := decide_eq_false h0
    have h2 : decide ((b.size : Int) ≤ at0) = true := decide_eq_true (by omega)
    go_enter Tryz.func56, Tryz.ntmps56
    go_wp2
    all_goals refine bodyPost_ret (by simp [results, Tryz.results56, go_sem]) rfl ⟨rfl, rfl⟩

set_option maxRecDepth 20000 in
set_option maxHeartbeats 4000000 in
theorem nextX_any {w : World} {d : Value} {L : List ByteArray} (h : DictV w d L) (hL : Fine L) (b : ByteArray) (hb : b.size ≤ 1000) (at0 : Nat) (hat : at0 < b.size) :
    Calls Tryz.prog 56 #[d, .string b, .int .i64 (at0 : Int)] w fun e w' => e = .returned (.tuple #[.int .i64 (xT L ((nums b).drop at0) : Int), .int .i64 (xN L ((nums b).drop at0) : Int)]) ∧ ∃ q, w' = w.drewN q := by
  have hy := drop_more hat
  have hF := (fine_iff L).1 hL
  have hl100 := hL.1
  have H40 := hid hF.2.1
  have HD := hid h
  have HL := hid hL
  obtain ⟨x, hx⟩ : ∃ x, x = b.extract at0 b.size := ⟨_, rfl⟩
  have hxn : nums x = (nums b).drop at0 := by
    rw [hx, nums_extract]
    exact List.take_of_length_le (by rw [List.length_drop, nums_length]; exact Nat.le_refl _)
  have hxs : x.size + at0 = b.size := by
    have h1 := nums_length x
    rw [hxn, List.length_drop, nums_length] at h1
    omega
  have hsl : ∀ W : World, (Instr.slice 9 (.string b) (some (.int .i64 (at0 : Int))) none none).run Tryz.prog W = .ok (.string x) W := fun W => by
    rw [run_slice_string_from_if W 9 b .i64 (at0 : Int) Tryz.underlying9, if_pos ⟨by omega, by omega⟩, hx]
    rfl
  have hix := byte_index b at0 hat
  have hdr := drop_nums b at0 hat
  obtain ⟨c, hc⟩ : ∃ c, c = (b[at0]'hat).toNat := ⟨_, rfl⟩
  rw [← hc] at hix hdr
  have hc256 : c < 256 := by rw [hc]; exact UInt8.toNat_lt _
  rw [← hxn] at hy hdr ⊢
  have hR : ∀ q n, at0 + n ≤ b.size → Calls Tryz.prog 74 #[d, .string b, .int .i64 (at0 : Int), .int .i64 (n : Int)] (w.drewN q) fun e w' => e = .returned (.int .i64 ((at0 + rN L (nums x) n : Nat) : Int)) ∧ w' = w.drewN q := fun q n hn => by
    rw [hxn]
    exact reach_any (h.drewN q) hL b hb at0 n hn
  have hch : (nums x).headD 0 = c := by rw [hdr, List.headD_cons]
  have HY := hid hy
  have HR := hid hR
  have hRl : ∀ n, n ≤ x.size → rN L (nums x) n ≤ x.size := fun n hn => by have := (rN_le hL (nums x) n (by rw [nums_length]; exact hn)).1; rwa [nums_length] at this
  have HRl := hid hRl
  obtain ⟨N, hN⟩ : ∃ N, N = L.length := ⟨_, rfl⟩
  have HN := hid hN
  have hd1 : decide ((at0 : Int) < 0) = false := decide_eq_false (by omega)
  have hd2 : decide ((b.size : Int) ≤ (at0 : Int)) = false := decide_eq_false (by omega)
  have hd22 : decide (b.size ≤ at0) = false := decide_eq_false (by omega)
  have HLen : Hid (∀ q, Calls Tryz.prog 75 #[d] (w.drewN q) fun e w' => e = .returned (.int .i64 N) ∧ w' = w.drewN q) := fun q => by rw [hN]; exact lenD_any (h.drewN q)
  rw [← hN] at hl100
  have hx1 : 1 ≤ x.size := by omega
  obtain ⟨f1, hf1⟩ : ∃ f, f = at0 + rN L (nums x) 1 := ⟨_, rfl⟩
  have HF1 := hid hf1
  have hR1 := fun q => hR q 1 (by omega)
  rw [← hf1, show ((1 : Nat) : Int) = 1 from rfl] at hR1
  have HR1 := hid hR1
  have HG0 := hid (fxAt_zero L (nums x))
  rw [hch] at HG0
  clear h hL hF hx hxn hN hc hdr hch hR hRl hf1 hR1 hy
  go_enter Tryz.func56, Tryz.ntmps56
  go_wp2_with fail
  go_quiet (first | (go_at_call 74; exact Calls.quiet_of_same (HR1.out _)))
  go_wp2_with (go_at_call 75; refine (HLen.out _).mono ?_; rintro e w1 ⟨rfl, hw1⟩; have HW1 := hid hw1; clear hw1)
  go_loopw [8, 9, 10, 33] (fun vt vm vf vi wr => ∃ (i t m f : Nat), vt = .int .i64 (t : Int) ∧ vm = .int .i64 (m : Int) ∧ vf = .int .i64 (f : Int) ∧ vi = .int .i64 i ∧ i ≤ N ∧ t ≤ 1000 ∧ m ≤ 40 ∧ f ≤ 1000 ∧ Hid (f = at0 + rN L (nums x) m) ∧ Hid (FxAt L (nums x) i t m) ∧ wr = w1) (fun _ _ _ vi _ => N - (intOf vi).toNat)
  case atStart => exact ⟨0, c, 1, f1, rfl, rfl, rfl, rfl, by omega, by omega, by omega, (by have h1 := HF1.out; have h2 := HRl.out 1 (by omega); omega), HF1.out, HG0.out, rfl⟩
  case round =>
    obtain ⟨i, t, m, f, rfl, rfl, rfl, rfl, hi, ht, hm, hf, hfe, hG, rfl⟩ := hrel
    by_cases hin : i < N
    · have hiL : i < L.length := by rw [← HN.out]; exact hin
      obtain ⟨s, hs⟩ : ∃ s, s = L[i]'hiL := ⟨_, rfl⟩
      have HA := hid (atD_ok (HD.out.drewN nq) (by have := HN.out; omega) i hiL)
      rw [← hs, ← HW1.out] at HA
      have hs1 := H40.out s (by rw [hs]; exact List.getElem_mem _)
      have hdi : decide ((i : Int) < (N : Int)) = true := decide_eq_true (by omega)
      by_cases hp : nums s <+: nums x
      · have HP := hid (decide_eq_true hp)
        have hsx : s.size ≤ x.size := by have := hp.length_le; rwa [nums_length, nums_length] at this
        obtain ⟨r, hr⟩ : ∃ r, r = at0 + rN L (nums x) s.size := ⟨_, rfl⟩
        have hRs := HR.out nq s.size (by omega)
        rw [← hr, ← HW1.out] at hRs
        have HRs := hid hRs
        have hrl : r ≤ 1000 := by have := HRl.out s.size hsx; omega
        have hfo := hfe.out
        by_cases h1 : f < r
        · have e1 : decide ((f : Int) < (r : Int)) = true := decide_eq_true (by omega)
          have e12 : decide (f < r) = true := decide_eq_true h1
          have HG2 := hid (hG.out.more hiL (by rw [← hs]; exact hp) (by rw [← hs]; left; omega))
          rw [← hs] at HG2
          have HRE := hid hr
          clear hs hG hp hr hRs hfo hfe
          go_wp2_with (first
            | (go_at_call 76; refine (HA.out).mono ?_; rintro e w2 ⟨rfl, rfl⟩)
            | (go_at_call 77; refine (prefixS_any _ x s (by omega) (by omega)).mono ?_; rw [HP.out]; rintro e w3 ⟨rfl, rfl⟩)
            | (go_at_call 74; refine (HRs.out).mono ?_; rintro e w4 ⟨rfl, rfl⟩))
          go_roundw
          case rel => exact ⟨i + 1, 256 + i, s.size, r, by go_num, rfl, rfl, by go_num, by omega, by omega, hs1.2, hrl, HRE.out, HG2.out, by first | rfl | trivial⟩
          case measure => simp [intOf]; omega
        · have e1 : decide ((f : Int) < (r : Int)) = false := decide_eq_false (by omega)
          have e12 : decide (f < r) = false := decide_eq_false h1
          by_cases h2 : r = f
          · by_cases h3 : m ≤ s.size
            · have e3 : decide ((m : Int) ≤ (s.size : Int)) = true := decide_eq_true (by omega)
              have e32 : decide (m ≤ s.size) = true := decide_eq_true h3
              have HG2 := hid (hG.out.more hiL (by rw [← hs]; exact hp) (by rw [← hs]; right; omega))
              rw [← hs] at HG2
              have HRE := hid hr
              clear hs hG hp hr hRs hfo hfe
              subst h2
              have e2 : ((r : Int) == (r : Int)) = true := by simp
              go_wp2_with (first
                | (go_at_call 76; refine (HA.out).mono ?_; rintro e w2 ⟨rfl, rfl⟩)
                | (go_at_call 77; refine (prefixS_any _ x s (by omega) (by omega)).mono ?_; rw [HP.out]; rintro e w3 ⟨rfl, rfl⟩)
                | (go_at_call 74; refine (HRs.out).mono ?_; rintro e w4 ⟨rfl, rfl⟩))
              go_roundw
              case rel => exact ⟨i + 1, 256 + i, s.size, r, by go_num, rfl, rfl, by go_num, by omega, by omega, hs1.2, hrl, HRE.out, HG2.out, by first | rfl | trivial⟩
              case measure => simp [intOf]; omega
            · have e3 : decide ((m : Int) ≤ (s.size : Int)) = false := decide_eq_false (by omega)
              have e32 : decide (m ≤ s.size) = false := decide_eq_false h3
              have HG2 := hid (hG.out.less hiL (by rw [← hs]; right; omega))
              clear hs hG hp hr hRs hfo
              subst h2
              have e2 : ((r : Int) == (r : Int)) = true := by simp
              go_wp2_with (first
                | (go_at_call 76; refine (HA.out).mono ?_; rintro e w2 ⟨rfl, rfl⟩)
                | (go_at_call 77; refine (prefixS_any _ x s (by omega) (by omega)).mono ?_; rw [HP.out]; rintro e w3 ⟨rfl, rfl⟩)
                | (go_at_call 74; refine (HRs.out).mono ?_; rintro e w4 ⟨rfl, rfl⟩))
              go_roundw
              case rel => exact ⟨i + 1, t, m, r, rfl, rfl, rfl, by go_num, by omega, ht, hm, hf, hfe.out, HG2.out, by first | rfl | trivial⟩
              case measure => simp [intOf]; omega
          · have e2 : ((r : Int) == (f : Int)) = false := beq_false_of_ne (by omega)
            have e22 : (r == f) = false := beq_false_of_ne h2
            have HG2 := hid (hG.out.less hiL (by rw [← hs]; left; omega))
            clear hs hG hp hr hRs hfo
            go_wp2_with (first
              | (go_at_call 76; refine (HA.out).mono ?_; rintro e w2 ⟨rfl, rfl⟩)
              | (go_at_call 77; refine (prefixS_any _ x s (by omega) (by omega)).mono ?_; rw [HP.out]; rintro e w3 ⟨rfl, rfl⟩)
              | (go_at_call 74; refine (HRs.out).mono ?_; rintro e w4 ⟨rfl, rfl⟩))
            go_roundw
            case rel => exact ⟨i + 1, t, m, f, rfl, rfl, rfl, by go_num, by omega, ht, hm, hf, hfe.out, HG2.out, by first | rfl | trivial⟩
            case measure => simp [intOf]; omega
      · have HP := hid (decide_eq_false hp)
        have HG2 := hid (hG.out.none hiL (by rw [← hs]; exact hp))
        clear hs hG hp
        go_wp2_with (first
          | (go_at_call 76; refine (HA.out).mono ?_; rintro e w2 ⟨rfl, rfl⟩)
          | (go_at_call 77; refine (prefixS_any _ x s (by omega) (by omega)).mono ?_; rw [HP.out]; rintro e w3 ⟨rfl, rfl⟩))
        go_roundw
        case rel => exact ⟨i + 1, t, m, f, rfl, rfl, rfl, by go_num, by omega, ht, hm, hf, hfe.out, HG2.out, by first | rfl | trivial⟩
        case measure => simp [intOf]; omega
    · obtain rfl : i = N := by omega
      have hdi : decide ((i : Int) < (i : Int)) = false := decide_eq_false (by omega)
      have hG1 := hG.out
      rw [HN.out] at hG1
      obtain ⟨em, et⟩ := hG1.all HL.out HY.out
      have HEM := hid em
      have HET := hid et
      clear em et hG1 hG hfe
      go_wp2
      refine bodyPost_ret (v := .tuple #[.int .i64 (t : Int), .int .i64 (m : Int)]) (by simp [results, Tryz.results56, go_sem]) rfl ⟨by rw [← HEM.out, ← HET.out], _, HW1.out⟩

set_option maxRecDepth 20000 in
set_option maxHeartbeats 4000000 in
theorem parseX_any {w : World} {d : Value} {L : List ByteArray} (h : DictV w d L) (hL : Fine L) (b : ByteArray) (hb : b.size ≤ 1000) :
    Calls Tryz.prog 20 #[d, .string b] w fun e w' => ∃ v', e = .returned v' ∧ w'.ownsRow w.heap.size 3 1 v' (xA L (nums b)).length (nats (ints (xA L (nums b)))) ∧ Below w.heap.size w w' := by
  have H := hid h
  have HL := hid hL
  have hd0 : decide ((1024 : Int) < (b.size : Int)) = false := decide_eq_false (by omega)
  have hd00 : decide (1024 < b.size) = false := decide_eq_false (by omega)
  clear h hL
  go_enter Tryz.func20, Tryz.ntmps20
  go_wp2
  go_loopw [5, 6] (fun u vi wr => ∃ (a : Nat) (ts : List Nat), vi = .int .i64 a ∧ a ≤ b.size ∧ ts.length ≤ a ∧ Hid (wr.ownsRow w.heap.size 3 1 u (ints ts).length (nats (ints ts))) ∧ Hid (ts ++ xA L ((nums b).drop a) = xA L (nums b)) ∧ Hid (Below w.heap.size w wr)) (fun _ vi _ => b.size - (intOf vi).toNat)
  case atStart => exact ⟨0, [], rfl, by omega, by simp, World.ownsRow_nil _ _ _ _, by show _ = _; simp, Below.refl _ _⟩
  case round =>
    obtain ⟨a, ts, rfl, ha, hts, hown, heq, hbw⟩ := hrel
    by_cases hlt : a < b.size
    · have hd1 : decide ((a : Int) < (b.size : Int)) = true := decide_eq_true (by omega)
      have hy : (nums b).drop a ≠ [] := by
        intro e
        have := congrArg List.length e
        rw [List.length_drop, nums_length] at this
        simp at this
        omega
      have HN := hid (nextX_any (H.out.below hbw.out) HL.out b hb a hlt)
      have hp := xN_pos HL.out hy
      have he := heq.out
      rw [xA_cons HL.out hy, List.drop_drop] at he
      obtain ⟨t, ht⟩ : ∃ t, t = xT L ((nums b).drop a) := ⟨_, rfl⟩
      obtain ⟨n, hn⟩ : ∃ n, n = xN L ((nums b).drop a) := ⟨_, rfl⟩
      rw [← ht, ← hn] at HN he
      rw [← hn, List.length_drop, nums_length] at hp
      have hn1 := hp.1
      have hn2 : a + n ≤ b.size := by omega
      have HE : Hid ((ts ++ [t]) ++ xA L ((nums b).drop (a + n)) = xA L (nums b)) := by show _ = _; rw [List.append_assoc]; exact he
      have hw : Hid (w.heap.size ≤ wr.heap.size) := hbw.out.size
      clear he heq hy hp ht hn
      go_wp2_with (first
        | (go_at_call 56; refine (HN.out).mono ?_; rintro e w1 ⟨rfl, q1, hq1⟩; have HB1 := hid (show Below w.heap.size w w1 from by rw [hq1]; exact hbw.out.trans (drewN_below _ _ _)); have ho1 := ownsRow_below hown.out (drewN_below wr q1 wr.heap.size); rw [← hq1] at ho1; have HO1 := hid ho1; clear hq1 ho1)
        | (at_builtin; refine wpList_append_ints rfl (.tmp 23) (.tmp 25) rfl w.heap.size _ (ints ts) rfl (HO1.out.alloc _) _ [(t : Int)] rfl (reads_built _ #[.int .i64 (t : Int)] _ 1 rfl) (by rw [ints_length]; simp; omega) (by have := HB1.out.size; simp; omega) ?_; intro v' w4 hown4 hb4))
      have HB4 : Hid (Below w.heap.size w w4) := (HB1.out.alloc HB1.out.size _).trans hb4
      have HO4 : Hid (w4.ownsRow w.heap.size 3 1 v' (ints (ts ++ [t])).length (nats (ints (ts ++ [t])))) := by
        have e : ints (ts ++ [t]) = ints ts ++ [(t : Int)] := by simp [ints]
        show World.ownsRow _ _ _ _ _ _ _
        rw [e]; exact hown4
      clear hown4 hb4 hown hbw HB1 HO1
      go_roundw
      case rel => exact ⟨a + n, ts ++ [t], by go_num, by omega, by simp; omega, HO4.out, HE.out, HB4.out⟩
      case measure => simp [intOf]; omega
    · obtain rfl : a = b.size := by omega
      have hd : (nums b).drop b.size = [] := List.drop_eq_nil_of_le (by rw [nums_length]; omega)
      have he := heq.out
      rw [hd, xA_nil, List.append_nil] at he
      subst he
      have ho := hown.out
      rw [ints_length] at ho
      have HO := hid ho
      clear ho hown heq hd
      go_wp2
      go_ret
      exact ⟨_, rfl, HO.out, hbw.out⟩
end Go.Proofs.YtdplflcaanmmiaaGreat
