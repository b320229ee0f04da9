/-
  Contract of the document's own Phrases: whether phrases may be.
-/
import Derived.Test.YtchbjokcnpcgcaaRefFind
import Derived.Test.YtchbjokcnpcgcaaDict2
namespace Go.Proofs.Ytchbjokcnpcgcaa
open Go.ChangeShapes Go.WideShapes Go.ChangeAt Go.RowKit

set_option maxRecDepth 20000 in
set_option maxHeartbeats 2000000 in
theorem phrases_fine {w : World} {v : Value} {L : List ByteArray} (hv : Reads w v (strs L)) (hL : Fine L) :
    Calls Try.prog 18 #[v] w fun e w' => e = .returned (.tuple #[.int .i64 0, .int .i64 0]) ∧ w' = w := by
  have HV := hid hv
  obtain ⟨a, ca, rfl, ha⟩ := hv
  rw [strs_length] at *
  have HA := hid ha
  have HL := hid hL
  have hl := hL.1
  clear ha hL
  generalize hn : L.length = n at HA hl HV
  have HN := hid hn
  clear hn
  go_enter Try.func18, Try.ntmps18
  go_wp2
  go_loopw [4, 5] (fun vt vi wr => ∃ t i : Nat, vt = .int .i64 t ∧ vi = .int .i64 i ∧ i ≤ n ∧ Hid (t = total (L.take i)) ∧ t ≤ 1000 ∧ wr = w) (fun _ vi _ => n - (intOf vi).toNat)
  case atStart => exact ⟨0, 0, rfl, rfl, by omega, by simp [Hid, total], by omega, rfl⟩
  case round =>
    obtain ⟨t, i, rfl, rfl, hi, ht, ht2, rfl⟩ := hrel
    by_cases hin : i < n
    · have hin' := hin
      rcases HA.out with h | ⟨gb, o, rfl, hgb, hcell⟩
      · omega
      have hiL : i < L.length := by rw [HN.out]; exact hin
      have hcb : wr.cell? ⟨gb, o + i, none⟩ = some (.string (L[i]'hiL)) := by rw [hcell i hin, strs_at]
      clear hcell
      have hx' : (decide ((0 : Int) ≤ (i : Int) ∧ (i : Int) < (n : Int))) = true := decide_eq_true ⟨by omega, by omega⟩
      have hst := HL.out.2 i hiL
      obtain ⟨h1, h2, h3, h4⟩ := step_zero hst
      have hfi : Hid (First L (L[i]'hiL) i) := ⟨hiL, rfl, fun j hj e => h4 (by rw [← e, List.mem_take_iff_getElem]; exact ⟨j, by omega, rfl⟩)⟩
      have htk : Hid (total (L.take (i + 1)) = t + (L[i]'hiL).size) := by
        show _ = _
        rw [List.take_succ_eq_append_getElem hiL, total_snoc, ht.out]
      rw [← ht.out] at h3
      clear h4 hst
      generalize L[i]'hiL = s at hcb h1 h2 h3 hfi htk
      have he := text_some (s := s) (by omega)
      have HLN : Hid (L.length ≤ 1000000) := by show _ ≤ _; rw [HN.out]; omega
      clear hiL
      go_wp2_with (go_at_call 27; refine (refFind_in HV.out HLN.out hfi.out).mono ?_; rintro e w1 ⟨rfl, rfl⟩)
      go_roundw
      case rel => exact ⟨t + s.size, i + 1, by go_num, by go_num, by omega, htk.out.symm, by omega, by first | rfl | trivial⟩
      case measure => simp [intOf]; omega
    · go_wp2
      go_ret2
      exact ⟨rfl, rfl⟩

set_option maxRecDepth 20000 in
set_option maxHeartbeats 2000000 in
theorem phrases_bad {w : World} {v : Value} {L : List ByteArray} {c a0 : Nat} (hv : Reads w v (strs L)) (hln : L.length ≤ 1000000) (hsz : ∀ s ∈ L, s.size ≤ 100000) (hL : Bad L c a0) :
    Calls Try.prog 18 #[v] w fun e w' => e = .returned (.tuple #[.int .i64 c, .int .i64 a0]) ∧ w' = w := by
  have HV := hid hv
  obtain ⟨a, ca, rfl, ha⟩ := hv
  rw [strs_length] at *
  have HA := hid ha
  clear ha
  rcases hL with ⟨hbig, rfl, rfl⟩ | ⟨hl, hal, hgo, hstop, hc0⟩
  · clear HA
    go_enter Try.func18, Try.ntmps18
    go_wp2
    go_ret2
    exact ⟨rfl, rfl⟩
  have HG : Hid (∀ j (hj : j < L.length), j < a0 → step (L.take j) (L[j]'hj) = 0) := fun j hj hja => hgo j hja
  have HT := hid (show ∃ h : a0 < L.length, step (L.take a0) (L[a0]'h) = c from ⟨hal, hstop⟩)
  have HZ := hid hsz
  have HC0 := hid hc0
  clear hgo hstop hsz hc0
  generalize hn : L.length = n at HA hl hal HV hln
  have HN := hid hn
  clear hn
  go_enter Try.func18, Try.ntmps18
  go_wp2
  go_loopw [4, 5] (fun vt vi wr => ∃ t i : Nat, vt = .int .i64 t ∧ vi = .int .i64 i ∧ i ≤ a0 ∧ Hid (t = total (L.take i)) ∧ t ≤ 1000 ∧ wr = w) (fun _ vi _ => n - (intOf vi).toNat)
  case atStart => exact ⟨0, 0, rfl, rfl, by omega, by simp [Hid, total], by omega, rfl⟩
  case round =>
    obtain ⟨t, i, rfl, rfl, hi, ht, ht2, rfl⟩ := hrel
    by_cases hia : i < a0
    · have hin : i < n := by omega
      rcases HA.out with h | ⟨gb, o, rfl, hgb, hcell⟩
      · omega
      have hiL : i < L.length := by rw [HN.out]; exact hin
      have hcb : wr.cell? ⟨gb, o + i, none⟩ = some (.string (L[i]'hiL)) := by rw [hcell i hin, strs_at]
      clear hcell
      have hx' : (decide ((0 : Int) ≤ (i : Int) ∧ (i : Int) < (n : Int))) = true := decide_eq_true ⟨by omega, by omega⟩
      have hst := HG.out i hiL hia
      obtain ⟨h1, h2, h3, h4⟩ := step_zero hst
      have hfi : Hid (First L (L[i]'hiL) i) := ⟨hiL, rfl, fun j hj e => h4 (by rw [← e, List.mem_take_iff_getElem]; exact ⟨j, by omega, rfl⟩)⟩
      have htk : Hid (total (L.take (i + 1)) = t + (L[i]'hiL).size) := by
        show _ = _
        rw [List.take_succ_eq_append_getElem hiL, total_snoc, ht.out]
      rw [← ht.out] at h3
      clear h4 hst
      generalize L[i]'hiL = s at hcb h1 h2 h3 hfi htk
      have he := text_some (s := s) (by omega)
      have HLN : Hid (L.length ≤ 1000000) := by show _ ≤ _; rw [HN.out]; omega
      clear hiL
      go_wp2_with (go_at_call 27; refine (refFind_in HV.out HLN.out hfi.out).mono ?_; rintro e w1 ⟨rfl, rfl⟩)
      go_roundw
      case rel => exact ⟨t + s.size, i + 1, by go_num, by go_num, by omega, htk.out.symm, by omega, by first | rfl | trivial⟩
      case measure => simp [intOf]; omega
    · obtain rfl : i = a0 := by omega
      have hin : i < n := hal
      rcases HA.out with h | ⟨gb, o, rfl, hgb, hcell⟩
      · omega
      have hiL : i < L.length := by rw [HN.out]; exact hin
      have hcb : wr.cell? ⟨gb, o + i, none⟩ = some (.string (L[i]'hiL)) := by rw [hcell i hin, strs_at]
      clear hcell
      have hx' : (decide ((0 : Int) ≤ (i : Int) ∧ (i : Int) < (n : Int))) = true := decide_eq_true ⟨by omega, by omega⟩
      have hst : step (L.take i) (L[i]'hiL) = c := by obtain ⟨_, h⟩ := HT.out; exact h
      have hs5 := HZ.out (L[i]'hiL) (List.getElem_mem _)
      have hmem : Hid (L[i]'hiL ∈ L.take i → ∃ k, k < i ∧ First L (L[i]'hiL) k) := by
        intro hm
        rcases first_or (L.take i) (L[i]'hiL) with h | ⟨k, hk1, hk2, hk3⟩
        · exact absurd hm h
        · rw [List.length_take] at hk1
          rw [List.getElem_take] at hk2
          exact ⟨k, by omega, by omega, hk2, fun j hj => by have := hk3 j hj; rwa [List.getElem_take] at this⟩
      have HLN : Hid (L.length ≤ 1000000) := by show _ ≤ _; rw [HN.out]; omega
      generalize L[i]'hiL = s at hcb hst hs5 hmem
      clear hiL HT HG HZ
      unfold step at hst
      split at hst
      · rename_i hs0
        subst hst
        obtain rfl := empty_size hs0
        go_wp2
        go_ret2
        exact ⟨rfl, rfl⟩
      · rename_i hs0
        have he := text_some hs0
        split at hst
        · rename_i hbig
          rw [← ht.out] at hbig
          subst hst
          by_cases h40 : 40 < s.size
          · go_wp2
            go_ret2
            exact ⟨rfl, rfl⟩
          · have h1000 : 1000 < t + s.size := by omega
            clear hbig
            go_wp2
            go_ret2
            exact ⟨rfl, rfl⟩
        · rename_i hbig
          rw [← ht.out] at hbig
          split at hst
          · rename_i hm
            subst hst
            obtain ⟨k, hki, hk⟩ := hmem.out hm
            have h40 : s.size ≤ 40 := by omega
            have h1000 : t + s.size ≤ 1000 := by omega
            clear hbig hm hmem
            go_wp2_with (go_at_call 27; refine (refFind_in HV.out HLN.out hk).mono ?_; rintro e w1 ⟨rfl, rfl⟩)
            go_ret2
            exact ⟨rfl, rfl⟩
          · exact absurd hst.symm HC0.out
end Go.Proofs.Ytchbjokcnpcgcaa
