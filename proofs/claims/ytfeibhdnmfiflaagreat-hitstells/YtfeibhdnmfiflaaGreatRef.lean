/-
  Contract of the document's own Find. What the document's own Find tells, as the word of a beginning. Contract of the document's own Phrases: whether phrases may be.
-/
import Derived.Test.YtfeibhdnmfiflaaGreatDict1
import Derived.Test.YtfeibhdnmfiflaaGreatTrieNew
import Derived.Test.YtfeibhdnmfiflaaGreatDict2
namespace Go.Proofs.YtfeibhdnmfiflaaGreat
open Go.ChangeShapes Go.WideShapes Go.ChangeAt Go.RowKit

set_option maxRecDepth 20000 in
set_option maxHeartbeats 2000000 in
theorem refFind_in {w : World} {v : Value} {L : List ByteArray} {s : ByteArray} {k : Nat} (hv : Reads w v (strs L)) (hl : L.length ≤ 1000000) (hk : First L s k) :
    Calls Tryz.prog 17 #[v, .string s] w fun e w' => e = .returned (.int .i64 k) ∧ w' = w := by
  obtain ⟨a, ca, rfl, ha⟩ := hv
  rw [strs_length] at *
  have HA := hid ha
  have HK := hid hk
  have hk1 : k < L.length := by obtain ⟨h, _⟩ := hk; exact h
  clear ha hk
  generalize hn : L.length = n at HA hl hk1
  have HN := hid hn
  clear hn
  go_enter Tryz.func17, Tryz.ntmps17
  go_wp2
  go_loopw [5] (fun vi wr => ∃ i : Nat, vi = .int .i64 i ∧ i ≤ k ∧ wr = w) (fun vi _ => n - (intOf vi).toNat)
  case atStart => exact ⟨0, rfl, by omega, rfl⟩
  case round =>
    obtain ⟨i, rfl, hi, rfl⟩ := hrel
    rcases HA.out with h | ⟨gb, o, rfl, hgb, hcell⟩
    · omega
    have hin : i < n := by omega
    have hcb : wr.cell? ⟨gb, o + i, none⟩ = some (.string (L[i]'(by rw [HN.out]; exact hin))) := by rw [hcell i hin, strs_at]
    clear hcell
    have hx' : (decide ((0 : Int) ≤ (i : Int) ∧ (i : Int) < (n : Int))) = true := decide_eq_true ⟨by omega, by omega⟩
    by_cases hik : i = k
    · subst hik
      have hxb : ((L[i]'(by rw [HN.out]; exact hin)).toList == s.toList) = true := text_eq (by obtain ⟨_, h, _⟩ := HK.out; exact h)
      go_wp2
      go_ret
      exact ⟨rfl, rfl⟩
    · have hxb : ((L[i]'(by rw [HN.out]; exact hin)).toList == s.toList) = false := text_ne (by obtain ⟨_, _, h⟩ := HK.out; exact fun e => h i (by omega) e)
      go_wp2
      go_roundw
      case rel => exact ⟨i + 1, by go_num, by omega, by first | rfl | trivial⟩
      case measure => simp [intOf]; omega

set_option maxRecDepth 20000 in
set_option maxHeartbeats 2000000 in
theorem refFind_out {w : World} {v : Value} {L : List ByteArray} {s : ByteArray} (hv : Reads w v (strs L)) (hl : L.length ≤ 1000000) (hk : s ∉ L) :
    Calls Tryz.prog 17 #[v, .string s] w fun e w' => e = .returned (.int .i64 (-1)) ∧ w' = w := by
  obtain ⟨a, ca, rfl, ha⟩ := hv
  rw [strs_length] at *
  have HA := hid ha
  have HK := hid hk
  clear ha hk
  generalize hn : L.length = n at HA hl
  have HN := hid hn
  clear hn
  go_enter Tryz.func17, Tryz.ntmps17
  go_wp2
  go_loopw [5] (fun vi wr => ∃ i : Nat, vi = .int .i64 i ∧ i ≤ n ∧ wr = w) (fun vi _ => n - (intOf vi).toNat)
  case atStart => exact ⟨0, rfl, by omega, rfl⟩
  case round =>
    obtain ⟨i, rfl, hi, rfl⟩ := hrel
    by_cases hin : i < n
    · rcases HA.out with h | ⟨gb, o, rfl, hgb, hcell⟩
      · omega
      have hcb : wr.cell? ⟨gb, o + i, none⟩ = some (.string (L[i]'(by rw [HN.out]; exact hin))) := by rw [hcell i hin, strs_at]
      clear hcell
      have hx' : (decide ((0 : Int) ≤ (i : Int) ∧ (i : Int) < (n : Int))) = true := decide_eq_true ⟨by omega, by omega⟩
      have hxb : ((L[i]'(by rw [HN.out]; exact hin)).toList == s.toList) = false := text_ne (fun e => HK.out (by rw [← e]; exact List.getElem_mem _))
      go_wp2
      go_roundw
      case rel => exact ⟨i + 1, by go_num, by omega, by first | rfl | trivial⟩
      case measure => simp [intOf]; omega
    · go_wp2
      go_ret
      exact ⟨rfl, rfl⟩
end Go.Proofs.YtfeibhdnmfiflaaGreat

namespace Go.Proofs.YtfeibhdnmfiflaaGreat
open Go.ChangeShapes Go.WideShapes Go.ChangeAt Go.RowKit

theorem idxOf_first (l : List (List Nat)) (x : List Nat) (k : Nat) (h : l[k]? = some x) (hno : ∀ j, j < k → l[j]? ≠ some x) : l.idxOf x = k := by
  induction l generalizing k with
  | nil => simp at h
  | cons a l ih =>
    cases k with
    | zero =>
      simp at h
      subst h
      simp
    | succ k =>
      have ha : a ≠ x := fun e => hno 0 (by omega) (by simp [e])
      rw [List.idxOf_cons]
      have hb : (a == x) = false := beq_false_of_ne ha
      rw [hb]
      simp only [cond_false]
      rw [ih k (by simpa using h) (fun j hj => by have := hno (j + 1) (by omega); simpa using this)]

theorem idxOf_once {l : List (List Nat)} (hl : l.Nodup) {x : List Nat} {k : Nat} (h : l[k]? = some x) : l.idxOf x = k := by
  refine idxOf_first l x k h (fun j hj e => ?_)
  obtain ⟨hk, ek⟩ := List.getElem?_eq_some_iff.1 h
  obtain ⟨hj2, ej⟩ := List.getElem?_eq_some_iff.1 e
  unfold List.Nodup at hl
  exact List.pairwise_iff_getElem.1 hl j k hj2 hk hj (ej.trans ek.symm)

theorem mem_nums {L : List ByteArray} {s : ByteArray} : nums s ∈ L.map nums ↔ s ∈ L := by
  constructor
  · intro h
    obtain ⟨t, ht, e⟩ := List.mem_map.1 h
    rw [← nums_inj _ _ e]
    exact ht
  · exact fun h => List.mem_map.2 ⟨s, h, rfl⟩

theorem find_word {w : World} {v : Value} {L : List ByteArray} {s : ByteArray} (hv : Reads w v (strs L)) (hl : L.length ≤ 1000000) :
    Calls Tryz.prog 17 #[v, .string s] w fun e w' => e = .returned (.int .i64 (wordOf (L.map nums) (nums s))) ∧ w' = w := by
  rcases first_or L s with hm | ⟨k, hk⟩
  · refine (refFind_out hv hl hm).mono ?_
    rintro e w' ⟨rfl, rfl⟩
    rw [wordOf, if_neg (fun h => hm (mem_nums.1 h))]
    exact ⟨rfl, rfl⟩
  · refine (refFind_in hv hl hk).mono ?_
    rintro e w' ⟨rfl, rfl⟩
    have hm := hk.mem
    obtain ⟨h1, h2, h3⟩ := hk
    rw [wordOf, if_pos (mem_nums.2 hm), idxOf_first (L.map nums) (nums s) k (by rw [List.getElem?_map, List.getElem?_eq_getElem h1, h2]; rfl) (fun j hj e => by
      rw [List.getElem?_map, List.getElem?_eq_getElem (by omega)] at e
      simp at e
      exact h3 j hj (nums_inj _ _ e))]
    exact ⟨rfl, rfl⟩
end Go.Proofs.YtfeibhdnmfiflaaGreat

namespace Go.Proofs.YtfeibhdnmfiflaaGreat
open Go.ChangeShapes Go.WideShapes Go.ChangeAt Go.RowKit

set_option maxRecDepth 20000 in
set_option maxHeartbeats 2000000 in
theorem phrases_fine {w : World} {v : Value} {L : List ByteArray} (hv : Reads w v (strs L)) (hL : Fine L) :
    Calls Tryz.prog 6 #[v] w fun e w' => e = .returned (.tuple #[.int .i64 0, .int .i64 0]) ∧ w' = w := by
  have HV := hid hv
  obtain ⟨a, ca, rfl, ha⟩ := hv
  rw [strs_length] at *
  have HA := hid ha
  have HL := hid hL
  have hl := hL.1
  clear ha hL
  generalize hn : L.length = n at HA hl HV
  have HN := hid hn
  clear hn
  go_enter Tryz.func6, Tryz.ntmps6
  go_wp2
  go_loopw [4, 5] (fun vt vi wr => ∃ t i : Nat, vt = .int .i64 t ∧ vi = .int .i64 i ∧ i ≤ n ∧ Hid (t = total (L.take i)) ∧ t ≤ 1000 ∧ wr = w) (fun _ vi _ => n - (intOf vi).toNat)
  case atStart => exact ⟨0, 0, rfl, rfl, by omega, by simp [Hid, total], by omega, rfl⟩
  case round =>
    obtain ⟨t, i, rfl, rfl, hi, ht, ht2, rfl⟩ := hrel
    by_cases hin : i < n
    · have hin' := hin
      rcases HA.out with h | ⟨gb, o, rfl, hgb, hcell⟩
      · omega
      have hiL : i < L.length := by rw [HN.out]; exact hin
      have hcb : wr.cell? ⟨gb, o + i, none⟩ = some (.string (L[i]'hiL)) := by rw [hcell i hin, strs_at]
      clear hcell
      have hx' : (decide ((0 : Int) ≤ (i : Int) ∧ (i : Int) < (n : Int))) = true := decide_eq_true ⟨by omega, by omega⟩
      have hst := HL.out.2 i hiL
      obtain ⟨h1, h2, h3, h4⟩ := step_zero hst
      have hfi : Hid (First L (L[i]'hiL) i) := ⟨hiL, rfl, fun j hj e => h4 (by rw [← e, List.mem_take_iff_getElem]; exact ⟨j, by omega, rfl⟩)⟩
      have htk : Hid (total (L.take (i + 1)) = t + (L[i]'hiL).size) := by
        show _ = _
        rw [List.take_succ_eq_append_getElem hiL, total_snoc, ht.out]
      rw [← ht.out] at h3
      clear h4 hst
      generalize L[i]'hiL = s at hcb h1 h2 h3 hfi htk
      have he := text_some (s := s) (by omega)
      have HLN : Hid (L.length ≤ 1000000) := by show _ ≤ _; rw [HN.out]; omega
      clear hiL
      go_wp2_with (go_at_call 17; refine (refFind_in HV.out HLN.out hfi.out).mono ?_; rintro e w1 ⟨rfl, rfl⟩)
      go_roundw
      case rel => exact ⟨t + s.size, i + 1, by go_num, by go_num, by omega, htk.out.symm, by omega, by first | rfl | trivial⟩
      case measure => simp [intOf]; omega
    · go_wp2
      go_ret2
      exact ⟨rfl, rfl⟩

set_option maxRecDepth 20000 in
set_option maxHeartbeats 2000000 in
theorem phrases_bad {w : World} {v : Value} {L : List ByteArray} {c a0 : Nat} (hv : Reads w v (strs L)) (hln : L.length ≤ 1000000) (hsz : ∀ s ∈ L, s.size ≤ 100000) (hL : Bad L c a0) :
    Calls Tryz.prog 6 #[v] w fun e w' => e = .returned (.tuple #[.int .i64 c, .int .i64 a0]) ∧ w' = w := by
  have HV := hid hv
  obtain ⟨a, ca, rfl, ha⟩ := hv
  rw [strs_length] at *
  have HA := hid ha
  clear ha
  rcases hL with ⟨hbig, rfl, rfl⟩ | ⟨hl, hal, hgo, hstop, hc0⟩
  · clear HA
    go_enter Tryz.func6, Tryz.ntmps6
    go_wp2
    go_ret2
    exact ⟨rfl, rfl⟩
  have HG : Hid (∀ j (hj : j < L.length), j < a0 → step (L.take j) (L[j]'hj) = 0) := fun j hj hja => hgo j hja
  have HT := hid (show ∃ h : a0 < L.length, step (L.take a0) (L[a0]'h) = c from ⟨hal, hstop⟩)
  have HZ := hid hsz
  have HC0 := hid hc0
  clear hgo hstop hsz hc0
  generalize hn : L.length = n at HA hl hal HV hln
  have HN := hid hn
  clear hn
  go_enter Tryz.func6, Tryz.ntmps6
  go_wp2
  go_loopw [4, 5] (fun vt vi wr => ∃ t i : Nat, vt = .int .i64 t ∧ vi = .int .i64 i ∧ i ≤ a0 ∧ Hid (t = total (L.take i)) ∧ t ≤ 1000 ∧ wr = w) (fun _ vi _ => n - (intOf vi).toNat)
  case atStart => exact ⟨0, 0, rfl, rfl, by omega, by simp [Hid, total], by omega, rfl⟩
  case round =>
    obtain ⟨t, i, rfl, rfl, hi, ht, ht2, rfl⟩ := hrel
    by_cases hia : i < a0
    · have hin : i < n := by omega
      rcases HA.out with h | ⟨gb, o, rfl, hgb, hcell⟩
      · omega
      have hiL : i < L.length := by rw [HN.out]; exact hin
      have hcb : wr.cell? ⟨gb, o + i, none⟩ = some (.string (L[i]'hiL)) := by rw [hcell i hin, strs_at]
      clear hcell
      have hx' : (decide ((0 : Int) ≤ (i : Int) ∧ (i : Int) < (n : Int))) = true := decide_eq_true ⟨by omega, by omega⟩
      have hst := HG.out i hiL hia
      obtain ⟨h1, h2, h3, h4⟩ := step_zero hst
      have hfi : Hid (First L (L[i]'hiL) i) := ⟨hiL, rfl, fun j hj e => h4 (by rw [← e, List.mem_take_iff_getElem]; exact ⟨j, by omega, rfl⟩)⟩
      have htk : Hid (total (L.take (i + 1)) = t + (L[i]'hiL).size) := by
        show _ = _
        rw [List.take_succ_eq_append_getElem hiL, total_snoc, ht.out]
      rw [← ht.out] at h3
      clear h4 hst
      generalize L[i]'hiL = s at hcb h1 h2 h3 hfi htk
      have he := text_some (s := s) (by omega)
      have HLN : Hid (L.length ≤ 1000000) := by show _ ≤ _; rw [HN.out]; omega
      clear hiL
      go_wp2_with (go_at_call 17; refine (refFind_in HV.out HLN.out hfi.out).mono ?_; rintro e w1 ⟨rfl, rfl⟩)
      go_roundw
      case rel => exact ⟨t + s.size, i + 1, by go_num, by go_num, by omega, htk.out.symm, by omega, by first | rfl | trivial⟩
      case measure => simp [intOf]; omega
    · obtain rfl : i = a0 := by omega
      have hin : i < n := hal
      rcases HA.out with h | ⟨gb, o, rfl, hgb, hcell⟩
      · omega
      have hiL : i < L.length := by rw [HN.out]; exact hin
      have hcb : wr.cell? ⟨gb, o + i, none⟩ = some (.string (L[i]'hiL)) := by rw [hcell i hin, strs_at]
      clear hcell
      have hx' : (decide ((0 : Int) ≤ (i : Int) ∧ (i : Int) < (n : Int))) = true := decide_eq_true ⟨by omega, by omega⟩
      have hst : step (L.take i) (L[i]'hiL) = c := by obtain ⟨_, h⟩ := HT.out; exact h
      have hs5 := HZ.out (L[i]'hiL) (List.getElem_mem _)
      have hmem : Hid (L[i]'hiL ∈ L.take i → ∃ k, k < i ∧ First L (L[i]'hiL) k) := by
        intro hm
        rcases first_or (L.take i) (L[i]'hiL) with h | ⟨k, hk1, hk2, hk3⟩
        · exact absurd hm h
        · rw [List.length_take] at hk1
          rw [List.getElem_take] at hk2
          exact ⟨k, by omega, by omega, hk2, fun j hj => by have := hk3 j hj; rwa [List.getElem_take] at this⟩
      have HLN : Hid (L.length ≤ 1000000) := by show _ ≤ _; rw [HN.out]; omega
      generalize L[i]'hiL = s at hcb hst hs5 hmem
      clear hiL HT HG HZ
      unfold step at hst
      split at hst
      · rename_i hs0
        subst hst
        obtain rfl := empty_size hs0
        go_wp2
        go_ret2
        exact ⟨rfl, rfl⟩
      · rename_i hs0
        have he := text_some hs0
        split at hst
        · rename_i hbig
          rw [← ht.out] at hbig
          subst hst
          by_cases h40 : 40 < s.size
          · go_wp2
            go_ret2
            exact ⟨rfl, rfl⟩
          · have h1000 : 1000 < t + s.size := by omega
            clear hbig
            go_wp2
            go_ret2
            exact ⟨rfl, rfl⟩
        · rename_i hbig
          rw [← ht.out] at hbig
          split at hst
          · rename_i hm
            subst hst
            obtain ⟨k, hki, hk⟩ := hmem.out hm
            have h40 : s.size ≤ 40 := by omega
            have h1000 : t + s.size ≤ 1000 := by omega
            clear hbig hm hmem
            go_wp2_with (go_at_call 17; refine (refFind_in HV.out HLN.out hk).mono ?_; rintro e w1 ⟨rfl, rfl⟩)
            go_ret2
            exact ⟨rfl, rfl⟩
          · exact absurd hst.symm HC0.out
end Go.Proofs.YtfeibhdnmfiflaaGreat
