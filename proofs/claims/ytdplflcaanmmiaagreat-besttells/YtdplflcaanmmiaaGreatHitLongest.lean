/-
  Contract of package hits: Longest.
-/
import Derived.Test.YtdplflcaanmmiaaGreatHit
namespace Go.Proofs.YtdplflcaanmmiaaGreat
open Go.ChangeShapes Go.WideShapes Go.ChangeAt Go.RowKit

theorem prefix_text (x s : ByteArray) : nums s <+: nums x ↔ s.size ≤ x.size ∧ x.extract 0 s.size = s := by
  constructor
  · intro h
    have h1 := h.length_le
    rw [nums_length, nums_length] at h1
    refine ⟨h1, nums_inj _ _ ?_⟩
    rw [nums_extract, List.drop_zero, Nat.sub_zero, ← nums_length s]
    exact (List.prefix_iff_eq_take.1 h).symm
  · rintro ⟨_, h2⟩
    have h3 := congrArg nums h2
    rw [nums_extract, List.drop_zero, Nat.sub_zero] at h3
    rw [← h3]
    exact List.take_prefix _ _

set_option maxRecDepth 20000 in
set_option maxHeartbeats 2000000 in
theorem prefixL_any (w : World) (x s : ByteArray) (_hx : x.size ≤ 1000000) (_hs : s.size ≤ 1000000) :
    Calls Tryz.prog 89 #[.string x, .string s] w fun e w' => e = .returned (.bool (decide (nums s <+: nums x))) ∧ w' = w := by
  by_cases h1 : s.size ≤ x.size
  · have hd : decide ((s.size : Int) ≤ (x.size : Int)) = true := decide_eq_true (by omega)
    by_cases h2 : x.extract 0 s.size = s
    · have hr := decide_eq_true ((prefix_text x s).2 ⟨h1, h2⟩)
      have hq : ((x.extract 0 s.size).toList == s.toList) = true := text_eq h2
      have HR := hid hr
      clear hr h2
      go_enter Tryz.func89, Tryz.ntmps89
      go_wp2
      go_ret
      rw [HR.out]
      exact ⟨rfl, rfl⟩
    · have hr := decide_eq_false (fun h => h2 ((prefix_text x s).1 h).2)
      have hq : ((x.extract 0 s.size).toList == s.toList) = false := text_ne h2
      have HR := hid hr
      clear hr h2
      go_enter Tryz.func89, Tryz.ntmps89
      go_wp2
      go_ret
      rw [HR.out]
      exact ⟨rfl, rfl⟩
  · have hd : decide ((s.size : Int) ≤ (x.size : Int)) = false := decide_eq_false (by omega)
    have hr := decide_eq_false (fun h => h1 ((prefix_text x s).1 h).1)
    have HR := hid hr
    clear hr
    go_enter Tryz.func89, Tryz.ntmps89
    go_wp2
    go_ret
    rw [HR.out]
    exact ⟨rfl, rfl⟩

theorem prefixS_any (w : World) (x s : ByteArray) (hx : x.size ≤ 1000000) (hs : s.size ≤ 1000000) :
    Calls Tryz.prog 77 #[.string x, .string s] w fun e w' => e = .returned (.bool (decide (nums s <+: nums x))) ∧ w' = w := by
  go_enter Tryz.func77, Tryz.ntmps77
  go_wp2_with (go_at_call 89; refine (prefixL_any _ x s hx hs).mono ?_; rintro e w1 ⟨rfl, rfl⟩)
  go_ret
  exact ⟨rfl, rfl⟩

/-- The longest of the first i phrases that begin y. -/
def LgAt (L : List ByteArray) (y : List Nat) (i : Nat) (k : Int) (m : Nat) : Prop :=
  (k = -1 ∧ m = 0 ∧ ∀ id (h : id < L.length), id < i → ¬ nums (L[id]'h) <+: y) ∨ ∃ (id : Nat) (h : id < L.length), id < i ∧ k = (id : Int) ∧ m = (L[id]'h).size ∧ nums (L[id]'h) <+: y ∧ ∀ id2 (h2 : id2 < L.length), id2 < i → nums (L[id2]'h2) <+: y → (L[id2]'h2).size ≤ m

theorem lgAt_zero (L : List ByteArray) (y : List Nat) : LgAt L y 0 (-1) 0 := .inl ⟨rfl, rfl, fun _ _ h => by omega⟩

theorem LgAt.skip {L : List ByteArray} {y : List Nat} {i m : Nat} {k : Int} (h : LgAt L y i k m) (hi : i < L.length) (hs : ¬ ((L[i]'hi).size > m ∧ nums (L[i]'hi) <+: y)) (h1 : 0 < (L[i]'hi).size) : LgAt L y (i + 1) k m := by
  rcases h with ⟨rfl, rfl, h2⟩ | ⟨id, h2, h3, rfl, h4, h5, h6⟩
  · refine .inl ⟨rfl, rfl, fun id h3 h4 h5 => ?_⟩
    by_cases e : id = i
    · subst e
      exact hs ⟨h1, h5⟩
    · exact h2 id h3 (by omega) h5
  · refine .inr ⟨id, h2, by omega, rfl, h4, h5, fun id2 h7 h8 h9 => ?_⟩
    by_cases e : id2 = i
    · subst e
      rcases Nat.lt_or_ge m (L[id2]'h7).size with h10 | h10
      · exact absurd ⟨h10, h9⟩ hs
      · exact h10
    · exact h6 id2 h7 (by omega) h9

theorem LgAt.take {L : List ByteArray} {y : List Nat} {i m : Nat} {k : Int} (h : LgAt L y i k m) (hi : i < L.length) (h1 : m < (L[i]'hi).size) (h2 : nums (L[i]'hi) <+: y) : LgAt L y (i + 1) (i : Int) (L[i]'hi).size := by
  refine .inr ⟨i, hi, by omega, rfl, rfl, h2, fun id2 h7 h8 h9 => ?_⟩
  by_cases e : id2 = i
  · subst e; exact Nat.le_refl _
  · rcases h with ⟨rfl, rfl, h3⟩ | ⟨id, _, h3, rfl, h4, h5, h6⟩
    · exact absurd h9 (h3 id2 h7 (by omega))
    · have := h6 id2 h7 (by omega) h9
      omega

theorem longest_off (w : World) (d : Value) (b : ByteArray) (at0 : Int) (h : at0 < 0 ∨ (b.size : Int) ≤ at0) :
    Calls Tryz.prog 73 #[d, .string b, .int .i64 at0] w fun e w' => e = .returned (.tuple #[.int .i64 (-1), .int .i64 0]) ∧ w' = w := by
  by_cases h0 : at0 < 0
  · go_enter Tryz.func73, Tryz.ntmps73
    go_wp2
    all_goals refine bodyPost_ret (by simp [results, Tryz.results73, go_sem]) rfl ⟨rfl, rfl⟩
  · have h1 : decide (at0 < 0) = false := decide_eq_false h0
    have h2 : decide ((b.size : Int) ≤ at0) = true := decide_eq_true (by omega)
    go_enter Tryz.func73, Tryz.ntmps73
    go_wp2
    all_goals refine bodyPost_ret (by simp [results, Tryz.results73, go_sem]) rfl ⟨rfl, rfl⟩

set_option maxRecDepth 20000 in
set_option maxHeartbeats 4000000 in
theorem longest_any {w : World} {d : Value} {L : List ByteArray} (h : DictV w d L) (hl : L.length ≤ 1000) (h40 : ∀ s ∈ L, 0 < s.size ∧ s.size ≤ 40) (b : ByteArray) (hb : b.size ≤ 1000) (at0 : Nat) (hat : at0 < b.size) :
    Calls Tryz.prog 73 #[d, .string b, .int .i64 (at0 : Int)] w fun e w' => ∃ k m, e = .returned (.tuple #[.int .i64 k, .int .i64 ((m : Nat) : Int)]) ∧ LgAt L ((nums b).drop at0) L.length k m ∧ w' = w := by
  obtain ⟨ad, rfl⟩ := h.pointer
  have HD := hid h
  have H40 := hid h40
  obtain ⟨x, hx⟩ : ∃ x, x = b.extract at0 b.size := ⟨_, rfl⟩
  have hxn : nums x = (nums b).drop at0 := by
    rw [hx, nums_extract]
    exact List.take_of_length_le (by rw [List.length_drop, nums_length]; exact Nat.le_refl _)
  have hxs : x.size ≤ 1000 := by
    have h1 := nums_length x
    rw [hxn, List.length_drop, nums_length] at h1
    omega
  have hsl : ∀ W : World, (Instr.slice 9 (.string b) (some (.int .i64 (at0 : Int))) none none).run Tryz.prog W = .ok (.string x) W := fun W => by
    rw [run_slice_string_from_if W 9 b .i64 (at0 : Int) Tryz.underlying9, if_pos ⟨by omega, by omega⟩, hx]
    rfl
  have HXN := hid hxn
  rw [← hxn]
  obtain ⟨N, hN⟩ : ∃ N, N = L.length := ⟨_, rfl⟩
  have HN := hid hN
  have hd0 : decide ((b.size : Int) ≤ (at0 : Int)) = false := decide_eq_false (by omega)
  have HLen := hid (lenD_any h)
  rw [← hN] at HLen hl ⊢
  clear h h40 hx hxn hN
  go_enter Tryz.func73, Tryz.ntmps73
  go_wp2_with (go_at_call 75; refine (HLen.out).mono ?_; rintro e w1 ⟨rfl, rfl⟩)
  go_loopw [8, 9, 25] (fun vk vm vi wr => ∃ (i m : Nat) (k : Int), vk = .int .i64 k ∧ vm = .int .i64 (m : Int) ∧ vi = .int .i64 i ∧ i ≤ N ∧ m ≤ 40 ∧ Hid (LgAt L (nums x) i k m) ∧ wr = w1) (fun _ _ vi _ => N - (intOf vi).toNat)
  case atStart => exact ⟨0, 0, -1, rfl, rfl, rfl, by omega, by omega, lgAt_zero _ _, rfl⟩
  case round =>
    obtain ⟨i, m, k, rfl, rfl, rfl, hi, hm, hG, rfl⟩ := hrel
    by_cases hin : i < N
    · have hiL : i < L.length := by rw [← HN.out]; exact hin
      obtain ⟨s, hs⟩ : ∃ s, s = L[i]'hiL := ⟨_, rfl⟩
      have HA := hid (atD_ok HD.out (by have := HN.out; omega) i hiL)
      rw [← hs] at HA
      have hs1 := H40.out s (by rw [hs]; exact List.getElem_mem _)
      by_cases hc : m < s.size
      · have hdc : decide ((m : Int) < (s.size : Int)) = true := decide_eq_true (by omega)
        have hdc2 : decide (m < s.size) = true := decide_eq_true (by omega)
        by_cases hp : nums s <+: nums x
        · have HG2 := hid (hG.out.take hiL (by rw [← hs]; exact hc) (by rw [← hs]; exact hp))
          rw [← hs] at HG2
          have HP := hid (decide_eq_true hp)
          clear hs hG hp
          go_wp2_with (first
            | (go_at_call 76; refine (HA.out).mono ?_; rintro e w2 ⟨rfl, rfl⟩)
            | (go_at_call 77; refine (prefixS_any _ x s (by omega) (by omega)).mono ?_; rw [HP.out]; rintro e w3 ⟨rfl, rfl⟩))
          go_roundw
          case rel => exact ⟨i + 1, s.size, _, rfl, rfl, by go_num, by omega, hs1.2, HG2.out, by first | rfl | trivial⟩
          case measure => simp [intOf]; omega
        · have HG2 := hid (hG.out.skip hiL (by rw [← hs]; exact fun h => hp h.2) (by rw [← hs]; exact hs1.1))
          have HP := hid (decide_eq_false hp)
          clear hs hG hp
          go_wp2_with (first
            | (go_at_call 76; refine (HA.out).mono ?_; rintro e w2 ⟨rfl, rfl⟩)
            | (go_at_call 77; refine (prefixS_any _ x s (by omega) (by omega)).mono ?_; rw [HP.out]; rintro e w3 ⟨rfl, rfl⟩))
          go_roundw
          case rel => exact ⟨i + 1, m, k, rfl, rfl, by go_num, by omega, hm, HG2.out, by first | rfl | trivial⟩
          case measure => simp [intOf]; omega
      · have hdc : decide ((m : Int) < (s.size : Int)) = false := decide_eq_false (by omega)
        have hdc2 : decide (m < s.size) = false := decide_eq_false (by omega)
        have HG2 := hid (hG.out.skip hiL (by rw [← hs]; exact fun h => hc h.1) (by rw [← hs]; exact hs1.1))
        clear hs hG
        go_wp2_with (go_at_call 76; refine (HA.out).mono ?_; rintro e w2 ⟨rfl, rfl⟩)
        go_roundw
        case rel => exact ⟨i + 1, m, k, rfl, rfl, by go_num, by omega, hm, HG2.out, by first | rfl | trivial⟩
        case measure => simp [intOf]; omega
    · obtain rfl : i = N := by omega
      go_wp2
      refine bodyPost_ret (by simp [results, Tryz.results73, go_sem]) rfl ⟨k, m, rfl, hG.out, rfl⟩
end Go.Proofs.YtdplflcaanmmiaaGreat
