/-
  Contract of the document's own Find. Contract of the document's own Phrases: whether phrases may be. What the document's own Find tells, as the word of a beginning. Contract of the document's own answer for chapter 7: Nodes. Contract of the document's own Longest: the longest end of a text that is a beginning.
-/
import Derived.Test.YtcbnlhgkihhakaaGreatDict1
import Derived.Test.YtcbnlhgkihhakaaGreatDict2
import Derived.Test.YtcbnlhgkihhakaaGreatTrieNew
import Derived.Test.YtcbnlhgkihhakaaGreatEnds
import Derived.Test.YtcbnlhgkihhakaaGreatLongMath
namespace Go.Proofs.YtcbnlhgkihhakaaGreat
open Go.ChangeShapes Go.WideShapes Go.ChangeAt Go.RowKit

set_option maxRecDepth 20000 in
set_option maxHeartbeats 2000000 in
theorem refFind_in {w : World} {v : Value} {L : List ByteArray} {s : ByteArray} {k : Nat} (hv : Reads w v (strs L)) (hl : L.length ≤ 1000000) (hk : First L s k) :
    Calls Tryz.prog 14 #[v, .string s] w fun e w' => e = .returned (.int .i64 k) ∧ w' = w := by
  obtain ⟨a, ca, rfl, ha⟩ := hv
  rw [strs_length] at *
  have HA := hid ha
  have HK := hid hk
  have hk1 : k < L.length := by obtain ⟨h, _⟩ := hk; exact h
  clear ha hk
  generalize hn : L.length = n at HA hl hk1
  have HN := hid hn
  clear hn
  go_enter Tryz.func14, Tryz.ntmps14
  go_wp2
  go_loopw [5] (fun vi wr => ∃ i : Nat, vi = .int .i64 i ∧ i ≤ k ∧ wr = w) (fun vi _ => n - (intOf vi).toNat)
  case atStart => exact ⟨0, rfl, by omega, rfl⟩
  case round =>
    obtain ⟨i, rfl, hi, rfl⟩ := hrel
    rcases HA.out with h | ⟨gb, o, rfl, hgb, hcell⟩
    · omega
    have hin : i < n := by omega
    have hcb : wr.cell? ⟨gb, o + i, none⟩ = some (.string (L[i]'(by rw [HN.out]; exact hin))) := by rw [hcell i hin, strs_at]
    clear hcell
    have hx' : (decide ((0 : Int) ≤ (i : Int) ∧ (i : Int) < (n : Int))) = true := decide_eq_true ⟨by omega, by omega⟩
    by_cases hik : i = k
    · subst hik
      have hxb : ((L[i]'(by rw [HN.out]; exact hin)).toList == s.toList) = true := text_eq (by obtain ⟨_, h, _⟩ := HK.out; exact h)
      go_wp2
      go_ret
      exact ⟨rfl, rfl⟩
    · have hxb : ((L[i]'(by rw [HN.out]; exact hin)).toList == s.toList) = false := text_ne (by obtain ⟨_, _, h⟩ := HK.out; exact fun e => h i (by omega) e)
      go_wp2
      go_roundw
      case rel => exact ⟨i + 1, by go_num, by omega, by first | rfl | trivial⟩
      case measure => simp [intOf]; omega

set_option maxRecDepth 20000 in
set_option maxHeartbeats 2000000 in
theorem refFind_out {w : World} {v : Value} {L : List ByteArray} {s : ByteArray} (hv : Reads w v (strs L)) (hl : L.length ≤ 1000000) (hk : s ∉ L) :
    Calls Tryz.prog 14 #[v, .string s] w fun e w' => e = .returned (.int .i64 (-1)) ∧ w' = w := by
  obtain ⟨a, ca, rfl, ha⟩ := hv
  rw [strs_length] at *
  have HA := hid ha
  have HK := hid hk
  clear ha hk
  generalize hn : L.length = n at HA hl
  have HN := hid hn
  clear hn
  go_enter Tryz.func14, Tryz.ntmps14
  go_wp2
  go_loopw [5] (fun vi wr => ∃ i : Nat, vi = .int .i64 i ∧ i ≤ n ∧ wr = w) (fun vi _ => n - (intOf vi).toNat)
  case atStart => exact ⟨0, rfl, by omega, rfl⟩
  case round =>
    obtain ⟨i, rfl, hi, rfl⟩ := hrel
    by_cases hin : i < n
    · rcases HA.out with h | ⟨gb, o, rfl, hgb, hcell⟩
      · omega
      have hcb : wr.cell? ⟨gb, o + i, none⟩ = some (.string (L[i]'(by rw [HN.out]; exact hin))) := by rw [hcell i hin, strs_at]
      clear hcell
      have hx' : (decide ((0 : Int) ≤ (i : Int) ∧ (i : Int) < (n : Int))) = true := decide_eq_true ⟨by omega, by omega⟩
      have hxb : ((L[i]'(by rw [HN.out]; exact hin)).toList == s.toList) = false := text_ne (fun e => HK.out (by rw [← e]; exact List.getElem_mem _))
      go_wp2
      go_roundw
      case rel => exact ⟨i + 1, by go_num, by omega, by first | rfl | trivial⟩
      case measure => simp [intOf]; omega
    · go_wp2
      go_ret
      exact ⟨rfl, rfl⟩
end Go.Proofs.YtcbnlhgkihhakaaGreat

namespace Go.Proofs.YtcbnlhgkihhakaaGreat
open Go.ChangeShapes Go.WideShapes Go.ChangeAt Go.RowKit

set_option maxRecDepth 20000 in
set_option maxHeartbeats 2000000 in
theorem phrases_fine {w : World} {v : Value} {L : List ByteArray} (hv : Reads w v (strs L)) (hL : Fine L) :
    Calls Tryz.prog 6 #[v] w fun e w' => e = .returned (.tuple #[.int .i64 0, .int .i64 0]) ∧ w' = w := by
  have HV := hid hv
  obtain ⟨a, ca, rfl, ha⟩ := hv
  rw [strs_length] at *
  have HA := hid ha
  have HL := hid hL
  have hl := hL.1
  clear ha hL
  generalize hn : L.length = n at HA hl HV
  have HN := hid hn
  clear hn
  go_enter Tryz.func6, Tryz.ntmps6
  go_wp2
  go_loopw [4, 5] (fun vt vi wr => ∃ t i : Nat, vt = .int .i64 t ∧ vi = .int .i64 i ∧ i ≤ n ∧ Hid (t = total (L.take i)) ∧ t ≤ 1000 ∧ wr = w) (fun _ vi _ => n - (intOf vi).toNat)
  case atStart => exact ⟨0, 0, rfl, rfl, by omega, by simp [Hid, total], by omega, rfl⟩
  case round =>
    obtain ⟨t, i, rfl, rfl, hi, ht, ht2, rfl⟩ := hrel
    by_cases hin : i < n
    · have hin' := hin
      rcases HA.out with h | ⟨gb, o, rfl, hgb, hcell⟩
      · omega
      have hiL : i < L.length := by rw [HN.out]; exact hin
      have hcb : wr.cell? ⟨gb, o + i, none⟩ = some (.string (L[i]'hiL)) := by rw [hcell i hin, strs_at]
      clear hcell
      have hx' : (decide ((0 : Int) ≤ (i : Int) ∧ (i : Int) < (n : Int))) = true := decide_eq_true ⟨by omega, by omega⟩
      have hst := HL.out.2 i hiL
      obtain ⟨h1, h2, h3, h4⟩ := step_zero hst
      have hfi : Hid (First L (L[i]'hiL) i) := ⟨hiL, rfl, fun j hj e => h4 (by rw [← e, List.mem_take_iff_getElem]; exact ⟨j, by omega, rfl⟩)⟩
      have htk : Hid (total (L.take (i + 1)) = t + (L[i]'hiL).size) := by
        show _ = _
        rw [List.take_succ_eq_append_getElem hiL, total_snoc, ht.out]
      rw [← ht.out] at h3
      clear h4 hst
      generalize L[i]'hiL = s at hcb h1 h2 h3 hfi htk
      have he := text_some (s := s) (by omega)
      have HLN : Hid (L.length ≤ 1000000) := by show _ ≤ _; rw [HN.out]; omega
      clear hiL
      go_wp2_with (go_at_call 14; refine (refFind_in HV.out HLN.out hfi.out).mono ?_; rintro e w1 ⟨rfl, rfl⟩)
      go_roundw
      case rel => exact ⟨t + s.size, i + 1, by go_num, by go_num, by omega, htk.out.symm, by omega, by first | rfl | trivial⟩
      case measure => simp [intOf]; omega
    · go_wp2
      go_ret2
      exact ⟨rfl, rfl⟩

set_option maxRecDepth 20000 in
set_option maxHeartbeats 2000000 in
theorem phrases_bad {w : World} {v : Value} {L : List ByteArray} {c a0 : Nat} (hv : Reads w v (strs L)) (hln : L.length ≤ 1000000) (hsz : ∀ s ∈ L, s.size ≤ 100000) (hL : Bad L c a0) :
    Calls Tryz.prog 6 #[v] w fun e w' => e = .returned (.tuple #[.int .i64 c, .int .i64 a0]) ∧ w' = w := by
  have HV := hid hv
  obtain ⟨a, ca, rfl, ha⟩ := hv
  rw [strs_length] at *
  have HA := hid ha
  clear ha
  rcases hL with ⟨hbig, rfl, rfl⟩ | ⟨hl, hal, hgo, hstop, hc0⟩
  · clear HA
    go_enter Tryz.func6, Tryz.ntmps6
    go_wp2
    go_ret2
    exact ⟨rfl, rfl⟩
  have HG : Hid (∀ j (hj : j < L.length), j < a0 → step (L.take j) (L[j]'hj) = 0) := fun j hj hja => hgo j hja
  have HT := hid (show ∃ h : a0 < L.length, step (L.take a0) (L[a0]'h) = c from ⟨hal, hstop⟩)
  have HZ := hid hsz
  have HC0 := hid hc0
  clear hgo hstop hsz hc0
  generalize hn : L.length = n at HA hl hal HV hln
  have HN := hid hn
  clear hn
  go_enter Tryz.func6, Tryz.ntmps6
  go_wp2
  go_loopw [4, 5] (fun vt vi wr => ∃ t i : Nat, vt = .int .i64 t ∧ vi = .int .i64 i ∧ i ≤ a0 ∧ Hid (t = total (L.take i)) ∧ t ≤ 1000 ∧ wr = w) (fun _ vi _ => n - (intOf vi).toNat)
  case atStart => exact ⟨0, 0, rfl, rfl, by omega, by simp [Hid, total], by omega, rfl⟩
  case round =>
    obtain ⟨t, i, rfl, rfl, hi, ht, ht2, rfl⟩ := hrel
    by_cases hia : i < a0
    · have hin : i < n := by omega
      rcases HA.out with h | ⟨gb, o, rfl, hgb, hcell⟩
      · omega
      have hiL : i < L.length := by rw [HN.out]; exact hin
      have hcb : wr.cell? ⟨gb, o + i, none⟩ = some (.string (L[i]'hiL)) := by rw [hcell i hin, strs_at]
      clear hcell
      have hx' : (decide ((0 : Int) ≤ (i : Int) ∧ (i : Int) < (n : Int))) = true := decide_eq_true ⟨by omega, by omega⟩
      have hst := HG.out i hiL hia
      obtain ⟨h1, h2, h3, h4⟩ := step_zero hst
      have hfi : Hid (First L (L[i]'hiL) i) := ⟨hiL, rfl, fun j hj e => h4 (by rw [← e, List.mem_take_iff_getElem]; exact ⟨j, by omega, rfl⟩)⟩
      have htk : Hid (total (L.take (i + 1)) = t + (L[i]'hiL).size) := by
        show _ = _
        rw [List.take_succ_eq_append_getElem hiL, total_snoc, ht.out]
      rw [← ht.out] at h3
      clear h4 hst
      generalize L[i]'hiL = s at hcb h1 h2 h3 hfi htk
      have he := text_some (s := s) (by omega)
      have HLN : Hid (L.length ≤ 1000000) := by show _ ≤ _; rw [HN.out]; omega
      clear hiL
      go_wp2_with (go_at_call 14; refine (refFind_in HV.out HLN.out hfi.out).mono ?_; rintro e w1 ⟨rfl, rfl⟩)
      go_roundw
      case rel => exact ⟨t + s.size, i + 1, by go_num, by go_num, by omega, htk.out.symm, by omega, by first | rfl | trivial⟩
      case measure => simp [intOf]; omega
    · obtain rfl : i = a0 := by omega
      have hin : i < n := hal
      rcases HA.out with h | ⟨gb, o, rfl, hgb, hcell⟩
      · omega
      have hiL : i < L.length := by rw [HN.out]; exact hin
      have hcb : wr.cell? ⟨gb, o + i, none⟩ = some (.string (L[i]'hiL)) := by rw [hcell i hin, strs_at]
      clear hcell
      have hx' : (decide ((0 : Int) ≤ (i : Int) ∧ (i : Int) < (n : Int))) = true := decide_eq_true ⟨by omega, by omega⟩
      have hst : step (L.take i) (L[i]'hiL) = c := by obtain ⟨_, h⟩ := HT.out; exact h
      have hs5 := HZ.out (L[i]'hiL) (List.getElem_mem _)
      have hmem : Hid (L[i]'hiL ∈ L.take i → ∃ k, k < i ∧ First L (L[i]'hiL) k) := by
        intro hm
        rcases first_or (L.take i) (L[i]'hiL) with h | ⟨k, hk1, hk2, hk3⟩
        · exact absurd hm h
        · rw [List.length_take] at hk1
          rw [List.getElem_take] at hk2
          exact ⟨k, by omega, by omega, hk2, fun j hj => by have := hk3 j hj; rwa [List.getElem_take] at this⟩
      have HLN : Hid (L.length ≤ 1000000) := by show _ ≤ _; rw [HN.out]; omega
      generalize L[i]'hiL = s at hcb hst hs5 hmem
      clear hiL HT HG HZ
      unfold step at hst
      split at hst
      · rename_i hs0
        subst hst
        obtain rfl := empty_size hs0
        go_wp2
        go_ret2
        exact ⟨rfl, rfl⟩
      · rename_i hs0
        have he := text_some hs0
        split at hst
        · rename_i hbig
          rw [← ht.out] at hbig
          subst hst
          by_cases h40 : 40 < s.size
          · go_wp2
            go_ret2
            exact ⟨rfl, rfl⟩
          · have h1000 : 1000 < t + s.size := by omega
            clear hbig
            go_wp2
            go_ret2
            exact ⟨rfl, rfl⟩
        · rename_i hbig
          rw [← ht.out] at hbig
          split at hst
          · rename_i hm
            subst hst
            obtain ⟨k, hki, hk⟩ := hmem.out hm
            have h40 : s.size ≤ 40 := by omega
            have h1000 : t + s.size ≤ 1000 := by omega
            clear hbig hm hmem
            go_wp2_with (go_at_call 14; refine (refFind_in HV.out HLN.out hk).mono ?_; rintro e w1 ⟨rfl, rfl⟩)
            go_ret2
            exact ⟨rfl, rfl⟩
          · exact absurd hst.symm HC0.out
end Go.Proofs.YtcbnlhgkihhakaaGreat

namespace Go.Proofs.YtcbnlhgkihhakaaGreat
open Go.ChangeShapes Go.WideShapes Go.ChangeAt Go.RowKit

theorem idxOf_first (l : List (List Nat)) (x : List Nat) (k : Nat) (h : l[k]? = some x) (hno : ∀ j, j < k → l[j]? ≠ some x) : l.idxOf x = k := by
  induction l generalizing k with
  | nil => simp at h
  | cons a l ih =>
    cases k with
    | zero =>
      simp at h
      subst h
      simp
    | succ k =>
      have ha : a ≠ x := fun e => hno 0 (by omega) (by simp [e])
      rw [List.idxOf_cons]
      have hb : (a == x) = false := beq_false_of_ne ha
      rw [hb]
      simp only [cond_false]
      rw [ih k (by simpa using h) (fun j hj => by have := hno (j + 1) (by omega); simpa using this)]

theorem idxOf_once {l : List (List Nat)} (hl : l.Nodup) {x : List Nat} {k : Nat} (h : l[k]? = some x) : l.idxOf x = k := by
  refine idxOf_first l x k h (fun j hj e => ?_)
  obtain ⟨hk, ek⟩ := List.getElem?_eq_some_iff.1 h
  obtain ⟨hj2, ej⟩ := List.getElem?_eq_some_iff.1 e
  unfold List.Nodup at hl
  exact List.pairwise_iff_getElem.1 hl j k hj2 hk hj (ej.trans ek.symm)

theorem mem_nums {L : List ByteArray} {s : ByteArray} : nums s ∈ L.map nums ↔ s ∈ L := by
  constructor
  · intro h
    obtain ⟨t, ht, e⟩ := List.mem_map.1 h
    rw [← nums_inj _ _ e]
    exact ht
  · exact fun h => List.mem_map.2 ⟨s, h, rfl⟩

theorem find_word {w : World} {v : Value} {L : List ByteArray} {s : ByteArray} (hv : Reads w v (strs L)) (hl : L.length ≤ 1000000) :
    Calls Tryz.prog 14 #[v, .string s] w fun e w' => e = .returned (.int .i64 (wordOf (L.map nums) (nums s))) ∧ w' = w := by
  rcases first_or L s with hm | ⟨k, hk⟩
  · refine (refFind_out hv hl hm).mono ?_
    rintro e w' ⟨rfl, rfl⟩
    rw [wordOf, if_neg (fun h => hm (mem_nums.1 h))]
    exact ⟨rfl, rfl⟩
  · refine (refFind_in hv hl hk).mono ?_
    rintro e w' ⟨rfl, rfl⟩
    have hm := hk.mem
    obtain ⟨h1, h2, h3⟩ := hk
    rw [wordOf, if_pos (mem_nums.2 hm), idxOf_first (L.map nums) (nums s) k (by rw [List.getElem?_map, List.getElem?_eq_getElem h1, h2]; rfl) (fun j hj e => by
      rw [List.getElem?_map, List.getElem?_eq_getElem (by omega)] at e
      simp at e
      exact h3 j hj (nums_inj _ _ e))]
    exact ⟨rfl, rfl⟩
end Go.Proofs.YtcbnlhgkihhakaaGreat

namespace Go.Proofs.YtcbnlhgkihhakaaGreat
open Go.ChangeShapes Go.WideShapes Go.ChangeAt Go.RowKit

/-- Beginnings as texts. -/
def asTexts (A : List (List Nat)) : List ByteArray := A.map bytesOf
theorem asTexts_length (A : List (List Nat)) : (asTexts A).length = A.length := by simp [asTexts]
theorem asTexts_append (A B : List (List Nat)) : asTexts (A ++ B) = asTexts A ++ asTexts B := by simp [asTexts]

theorem bytesOf_inj {x y : List Nat} (hx : ∀ z ∈ x, z < 256) (hy : ∀ z ∈ y, z < 256) (h : bytesOf x = bytesOf y) : x = y := by
  rw [← nums_bytesOf x hx, ← nums_bytesOf y hy, h]

theorem asTexts_mem {A : List (List Nat)} (hA : AllBytes A) {x : List Nat} (hx : ∀ z ∈ x, z < 256) : bytesOf x ∈ asTexts A ↔ x ∈ A := by
  constructor
  · intro h
    simp only [asTexts, List.mem_map] at h
    obtain ⟨y, hy, e⟩ := h
    rw [← bytesOf_inj (hA y hy) hx e]
    exact hy
  · intro h
    exact List.mem_map.2 ⟨x, h, rfl⟩

theorem allBytes_add {A : List (List Nat)} (hA : AllBytes A) {s : List Nat} (hs : ∀ z ∈ s, z < 256) (k : Nat) : AllBytes (addUpto A s k) := by
  intro x hx
  rcases (addUpto_mem A s k x).1 hx with h | ⟨j, _, _, rfl⟩
  · exact hA x h
  · exact fun y hy => hs y (List.mem_of_mem_take hy)

theorem allBytes_nodes (L : List ByteArray) : AllBytes (nodesN (L.map nums)) := by
  intro x hx
  rcases (nodesN_mem _ x).1 hx with rfl | ⟨s, hs, j, _, _, rfl⟩
  · simp
  · obtain ⟨t, _, rfl⟩ := List.mem_map.1 hs
    exact fun y hy => nums_byte t y (List.mem_of_mem_take hy)

theorem nums_asTexts {A : List (List Nat)} (hA : AllBytes A) : (asTexts A).map nums = A := by
  unfold asTexts
  rw [List.map_map]
  conv => rhs; rw [← List.map_id A]
  exact List.map_congr_left (fun x hx => nums_bytesOf x (hA x hx))

/-- The document's Find among beginnings. -/
theorem find_begin {w : World} {v : Value} {A : List (List Nat)} (hA : AllBytes A) (hv : Reads w v (strs (asTexts A))) (hl : A.length ≤ 1000000) {x : List Nat} (hx : ∀ z ∈ x, z < 256) :
    Calls Tryz.prog 14 #[v, .string (bytesOf x)] w fun e w' => e = .returned (.int .i64 (wordOf A x)) ∧ w' = w := by
  have := find_word (s := bytesOf x) hv (by rw [asTexts_length]; exact hl)
  rw [nums_asTexts hA, nums_bytesOf x hx] at this
  exact this

theorem wordOf_neg {A : List (List Nat)} {x : List Nat} : decide (wordOf A x < 0) = decide (x ∉ A) := by
  rw [decide_eq_decide]
  unfold wordOf
  split
  · rename_i h
    exact ⟨fun h2 => by omega, fun h2 => absurd h h2⟩
  · rename_i h
    exact ⟨fun _ => h, fun _ => by omega⟩

set_option maxRecDepth 20000 in
set_option maxHeartbeats 4000000 in
theorem nodes_any {w : World} {v : Value} {L : List ByteArray} (hv : Reads w v (strs L)) (hl : L.length ≤ 1000) (hs : total L ≤ 100000) :
    Calls Tryz.prog 9 #[v] w fun e w' => ∃ v', e = .returned v' ∧ w'.ownsRow w.heap.size 9 1 v' (nodesN (L.map nums)).length (strs (asTexts (nodesN (L.map nums)))) ∧ Below w.heap.size w w' := by
  obtain ⟨i0, hi0, hz0, hz1, hz2⟩ := info_parts Tryz.infoStr
  obtain ⟨a, ca, rfl, ha⟩ := hv
  rw [strs_length] at *
  have HA := hid ha
  have HS := hid hs
  clear ha hs
  go_enter Tryz.func9, Tryz.ntmps9
  go_wp2
  go_loopw [3, 4] (fun vo vi wr => ∃ i : Nat, ∃ A : List (List Nat), vi = .int .i64 i ∧ i ≤ L.length ∧ Hid (A = nodesN ((L.take i).map nums)) ∧ Hid (wr.ownsRow w.heap.size 9 1 vo A.length (strs (asTexts A))) ∧ Hid (Below w.heap.size w wr)) (fun _ vi _ => L.length - (intOf vi).toNat)
  case atStart => exact ⟨0, [[]], rfl, by omega, rfl, ⟨rfl, .inr ⟨w.heap.size, 1, _, rfl, Nat.le_refl _, heap_alloc_new w _, Nat.le_refl _, by decide, rfl, rfl⟩⟩, (Below.refl _ _).alloc (Nat.le_refl _) _⟩
  case round =>
    obtain ⟨i, A, rfl, hi, hA, hO, hb⟩ := hrel
    by_cases hlt : i < L.length
    · rcases HA.out with h0 | ⟨gb, o, rfl, hgb, hcell⟩
      · omega
      have hcb : ∀ W, Below w.heap.size w W → W.cell? ⟨gb, o + i, none⟩ = some (.string (L[i]'hlt)) := fun W hW => by rw [hW.cell (p := ⟨gb, o + i, none⟩) hgb, hcell i hlt, strs_at]
      clear hcell
      have htot : total (L.take i) + (L[i]'hlt).size ≤ 100000 := by
        have h1 := total_take L (i + 1)
        rw [List.take_succ_eq_append_getElem hlt, total_snoc] at h1
        have := HS.out
        omega
      have hnx : Hid (nodesN ((L.take (i + 1)).map nums) = addUpto (nodesN ((L.take i).map nums)) (nums (L[i]'hlt)) (L[i]'hlt).size) := by
        show _ = _
        rw [List.take_succ_eq_append_getElem hlt, List.map_append, List.map_singleton, nodesN_snoc, nums_length]
      rw [← hA.out] at hnx
      have hAl : A.length ≤ 1 + total (L.take i) := by
        have := nodesN_length ((L.take i).map nums)
        rw [sum_nums, ← hA.out] at this
        exact this
      have hAB : AllBytes A := by rw [hA.out]; exact allBytes_nodes _
      have HCB := hid hcb
      clear hcb
      have hx' : (decide ((0 : Int) ≤ (i : Int) ∧ (i : Int) < (L.length : Int))) = true := decide_eq_true ⟨by omega, by omega⟩
      generalize L[i]'hlt = s at HCB htot hnx
      have hc0 := HCB.out wr hb.out
      go_wp2
      go_loopw [3, 5] (fun vo vk wr2 => ∃ q : Nat, ∃ A2 : List (List Nat), vk = .int .i64 ((q : Int) + 1) ∧ q ≤ s.size ∧ Hid (A2 = addUpto A (nums s) q) ∧ Hid (wr2.ownsRow w.heap.size 9 1 vo A2.length (strs (asTexts A2))) ∧ Hid (Below w.heap.size w wr2)) (fun _ vk _ => s.size + 1 - (intOf vk).toNat)
      case atStart => exact ⟨0, A, rfl, by omega, rfl, hO.out, hb.out⟩
      case round =>
        obtain ⟨q, A2, rfl, hq, hA2, hO2, hb2⟩ := hrel
        have hc1 := HCB.out wr hb2.out
        have hA2l : A2.length ≤ A.length + q := by rw [hA2.out]; exact (addUpto_length A (nums s) q).2
        have hA2B : AllBytes A2 := by rw [hA2.out]; exact allBytes_add hAB (nums_byte s) q
        by_cases hlt2 : q < s.size
        · have hd : decide ((q : Int) + 1 ≤ (s.size : Int)) = true := decide_eq_true (by omega)
          have hsl : ∀ W : World, (Instr.slice 9 (.string s) none (some (.int .i64 ((q : Int) + 1))) none).run Tryz.prog W = .ok (.string (bytesOf ((nums s).take (q + 1)))) W := fun W => by
            have := run_slice_string_h (P := Tryz.prog) W 9 s Tryz.underlying9 .i64 ((q : Int) + 1) (by omega) (by omega)
            rw [this, ← begin_text]
            rfl
          have HFd := hid (fun (W : World) (hW : Below wr.heap.size wr W) => find_begin hA2B ((ownsRow_reads hO2.out).below hW) (by omega) (x := (nums s).take (q + 1)) (fun z hz => nums_byte s z (List.mem_of_mem_take hz)))
          by_cases hm : (nums s).take (q + 1) ∈ A2
          · have hg : decide (wordOf A2 ((nums s).take (q + 1)) < 0) = false := by rw [wordOf_neg]; exact decide_eq_false (fun h => h hm)
            go_wp2_with (go_at_call 14; refine (HFd.out _ (Below.refl _ _)).mono ?_; rintro e w5 ⟨rfl, rfl⟩)
            go_roundw
            case rel => exact ⟨q + 1, A2, by go_num, by omega, by
              show _ = _
              rw [addUpto, ← hA2.out, if_pos hm], hO2.out, hb2.out⟩
            case measure => simp [intOf]; omega
          · have hg : decide (wordOf A2 ((nums s).take (q + 1)) < 0) = true := by rw [wordOf_neg]; exact decide_eq_true hm
            have hs2 := hb2.out.size
            go_wp2_with (first
              | (go_at_call 14; refine (HFd.out _ (Below.refl _ _)).mono ?_; rintro e w5 ⟨rfl, rfl⟩)
              | (at_builtin; refine wpList_append_reads _ rfl _ _ 22 rfl w.heap.size 9 i0 (.string ⟨#[]⟩) 16 Tryz.underlying22 hi0 hz0 hz1 hz2 rfl _ A2.length (strs (asTexts A2)) rfl (hO2.out.alloc _) (.slice (some ⟨w5.heap.size, 0, none⟩) 1 1) [.string (bytesOf ((nums s).take (q + 1)))] rfl (reads_built w5 #[.string (bytesOf ((nums s).take (q + 1)))] _ 1 rfl) (by intro u hu; simp at hu; subst hu; rfl) (by unfold maxLen; simp; omega) (by simp; omega) (by rw [Go.Deep.nblk_alloc]; omega) ?_
                 intro v6 w6 hown6 hgrow6 hat6 hold6
                 have hb6 : Below w.heap.size w w6 := (hb2.out.alloc hb2.out.size _).grown hgrow6 (by rw [Go.Deep.nblk_alloc]; omega) (fun k hk => (hO2.out.lt k hk).1)
                 rw [show strs (asTexts A2) ++ [Value.string (bytesOf ((nums s).take (q + 1)))] = strs (asTexts (A2 ++ [(nums s).take (q + 1)])) by simp [strs, asTexts], List.length_singleton] at hown6
                 have HO6 := hid hown6
                 have HB6 := hid hb6
                 clear hown6 hgrow6 hat6 hold6 hb6))
            go_roundw
            case rel => exact ⟨q + 1, A2 ++ [(nums s).take (q + 1)], by go_num, by omega, by
              show _ = _
              rw [addUpto, ← hA2.out, if_neg hm], by rw [List.length_append, List.length_singleton]; exact HO6.out, HB6.out⟩
            case measure => simp [intOf]; omega
        · obtain rfl : q = s.size := by omega
          have hd : decide ((s.size : Int) + 1 ≤ (s.size : Int)) = false := decide_eq_false (by omega)
          go_wp2
          go_roundw
          case rel => exact ⟨i + 1, A2, by go_num, by omega, by
            show _ = _
            rw [hnx.out, hA2.out], hO2.out, hb2.out⟩
          case measure => simp [intOf]; omega
    · obtain rfl : i = L.length := by omega
      have hall : L.take L.length = L := List.take_length
      have hA3 := hA.out
      rw [hall] at hA3
      have HA3 := hid hA3
      clear hA3 hall
      go_wp2
      go_ret
      rw [← HA3.out]
      exact ⟨_, rfl, hO.out, hb.out⟩
end Go.Proofs.YtcbnlhgkihhakaaGreat

namespace Go.Proofs.YtcbnlhgkihhakaaGreat
open Go.ChangeShapes Go.WideShapes Go.ChangeAt Go.RowKit

set_option maxRecDepth 20000 in
set_option maxHeartbeats 2000000 in
theorem longest_from {w : World} {v : Value} {A : List (List Nat)} (hA : AllBytes A) (h0 : [] ∈ A) (hv : Reads w v (strs (asTexts A))) (hl : A.length ≤ 1000000) {x : List Nat} {s : ByteArray} (hs : s = bytesOf x) (hx : ∀ z ∈ x, z < 256) (hxl : x.length ≤ 1000000) (most : Nat) (hm : most ≤ 1000000) :
    Calls Tryz.prog 12 #[v, .string s, .int .i64 (most : Int)] w fun e w' => e = .returned (.int .i64 ((A.idxOf (longT A (x.drop (x.length - most))) : Nat) : Int)) ∧ w' = w := by
  have hss : s.size = x.length := by rw [hs, bytesOf_size]
  obtain ⟨k0, hk0⟩ : ∃ k0, k0 = x.length - most := ⟨_, rfl⟩
  have HS := hid hs
  have HSS := hid hss
  have HV := hid hv
  have HA := hid hA
  have HX := hid hx
  have H0 := hid h0
  have hsl6 : s.size ≤ 1000000 := by rw [hss]; exact hxl
  have hkl : k0 ≤ s.size := by omega
  have hval : max ((s.size : Int) - (most : Int)) 0 = (k0 : Int) := by omega
  rw [← hk0]
  have HK0 : Hid (s.size - most = k0) := by show _ = _; rw [hss]; exact hk0.symm
  clear hs hss hv hA hx h0 hk0
  go_enter Tryz.func12, Tryz.ntmps12
  go_wp2
  go_loopw [7] (fun vk wr => ∃ k : Nat, vk = .int .i64 k ∧ k ≤ s.size ∧ Hid (longT A (x.drop k0) = longT A (x.drop k)) ∧ wr = w) (fun vk _ => s.size + 1 - (intOf vk).toNat)
  case atStart => exact ⟨k0, by first | rfl | (simp; omega) | go_num, hkl, rfl, rfl⟩
  case round =>
    obtain ⟨k, rfl, hk, hT, rfl⟩ := hrel
    have hd : decide ((k : Int) ≤ (s.size : Int)) = true := decide_eq_true (by omega)
    have hsl : ∀ W : World, (Instr.slice 9 (.string s) (some (.int .i64 (k : Int))) none none).run Tryz.prog W = .ok (.string (bytesOf (x.drop k))) W := fun W => by
      rw [HS.out]
      exact slice_last x k (by rw [← HSS.out]; exact hk) W
    have HFd := hid (find_begin HA.out HV.out hl (x := x.drop k) (fun z hz => HX.out z (List.mem_of_mem_drop hz)))
    by_cases hin : x.drop k ∈ A
    · rw [wordOf, if_pos hin] at HFd
      have HR : Hid (longT A (x.drop k0) = x.drop k) := by show _ = _; rw [hT.out, longT_at A _ hin]
      go_wp2_with (go_at_call 14; refine (HFd.out).mono ?_; rintro e w1 ⟨rfl, rfl⟩)
      go_ret
      rw [HR.out]
      exact ⟨rfl, rfl⟩
    · rw [wordOf, if_neg hin] at HFd
      have hks : k < s.size := by
        rcases Nat.lt_or_ge k s.size with h | h
        · exact h
        · exact absurd (by rw [List.drop_eq_nil_of_le (by rw [← HSS.out]; exact h)]; exact H0.out) hin
      have HR : Hid (longT A (x.drop k0) = longT A (x.drop (k + 1))) := by show _ = _; rw [hT.out, longT_skip A x k (by rw [← HSS.out]; exact hks) hin]
      go_wp2_with (go_at_call 14; refine (HFd.out).mono ?_; rintro e w1 ⟨rfl, rfl⟩)
      go_roundw
      case rel => exact ⟨k + 1, by go_num, by omega, HR.out, by first | rfl | trivial⟩
      case measure => simp [intOf]; omega
end Go.Proofs.YtcbnlhgkihhakaaGreat
