/-
  ScanFinds: each hit is a phrase that stands there, in their order; there are as many hits as places where phrases stand. For every list of texts, every bytes.
-/
import Derived.Test.YtmaadeeocppkfaaScanMore
import Derived.IntWalk
import Derived.ShutString
import Derived.ChangeOld
import Derived.SizedLaws
namespace Go.Proofs.Ytmaadeeocppkfaa
open Go.ChangeShapes Go.WideShapes Go.ChangeAt Go.RowKit
open Go.ChangeMaps (open_string shut_string)
open Go.IntWalk (i64_in)

/-- How many phrases stand at the places ahead of one. -/
def cntU (P : List (List Nat)) (B : List Nat) (m : Nat) : Nat := ((List.range m).map (fun i => (P.filter (fun s => decide (s <+: B.drop i))).length)).sum
theorem cntU_succ (P : List (List Nat)) (B : List Nat) (m : Nat) : cntU P B (m + 1) = cntU P B m + (P.filter (fun s => decide (s <+: B.drop m))).length := by
  unfold cntU
  rw [List.range_succ, List.map_append, List.sum_append]
  simp

/-- What a hit is. -/
def HitIs (L : List ByteArray) (b : ByteArray) (E K : Nat) (s : ByteArray) : Prop :=
  E ≤ b.size ∧ L[K]? = some s ∧ s.size ≤ E ∧ b.extract (E - s.size) E = s

theorem hit_told {L : List ByteArray} (b : ByteArray) (i : Nat) (hi : i < (hitsT (L.map nums) 0 [] (nums b)).length) : ∃ E K s, (hitsT (L.map nums) 0 [] (nums b))[i]'hi = (E, K) ∧ HitIs L b E K s := by
  obtain ⟨n, y, hn, he, hyP, hy0, hsuf⟩ := hitsT_mem (L.map nums) (nums b) 0 [] _ (List.getElem_mem hi)
  rw [nums_length] at hn
  obtain ⟨s, hs, rfl⟩ := List.mem_map.1 hyP
  have hK := List.idxOf_lt_length_of_mem hyP
  have hK2 : (L.map nums).idxOf (nums s) < L.length := by rw [List.length_map] at hK; exact hK
  have hLs : L[(L.map nums).idxOf (nums s)]'hK2 = s := by
    apply nums_inj
    have := List.getElem_idxOf hK
    rw [List.getElem_map] at this
    exact this
  have hlen := hsuf.length_le
  rw [List.nil_append, nums_length, List.length_take, nums_length] at hlen
  refine ⟨0 + n + 1, (L.map nums).idxOf (nums s), s, he, by omega, by rw [List.getElem?_eq_getElem hK2, hLs], by omega, ?_⟩
  apply nums_inj
  have h2 := suffix_drop hsuf
  rw [List.nil_append, nums_length, List.length_take, nums_length] at h2
  rw [nums_extract, ← List.drop_take, show 0 + n + 1 = n + 1 by omega]
  rw [show n + 1 - s.size = min (n + 1) b.size - s.size by omega]
  exact h2

theorem hit_after {L : List ByteArray} (b : ByteArray) (i : Nat) (hi : i + 1 < (hitsT (L.map nums) 0 [] (nums b)).length) {E K E' K' : Nat} {s s' : ByteArray} (h1 : (hitsT (L.map nums) 0 [] (nums b))[i]'(by omega) = (E', K')) (h2 : (hitsT (L.map nums) 0 [] (nums b))[i + 1]'hi = (E, K)) (h3 : HitIs L b E' K' s') (h4 : HitIs L b E K s) : E' < E ∨ (E' = E ∧ s.size < s'.size) := by
  have hp := List.pairwise_iff_getElem.1 (hitsT_falls (L.map nums) (nums b) 0 []) i (i + 1) (by omega) hi (by omega)
  rw [h1, h2] at hp
  have g : ∀ (K : Nat) (s : ByteArray), L[K]? = some s → ((L.map nums).getD K []).length = s.size := fun K s h => by
    simp [List.getD, List.getElem?_map, h, nums_length]
  unfold laterT at hp
  simp only at hp
  rw [g K s h4.2.1, g K' s' h3.2.1] at hp
  exact hp

/-- How many phrases of the first k stand at a place. -/
theorem stand_cut (b s : ByteArray) (at0 : Nat) (h : at0 ≤ b.size) : nums s <+: (nums b).drop at0 ↔ at0 + s.size ≤ b.size ∧ b.extract at0 (at0 + s.size) = s := by
  constructor
  · intro hp
    have hl := hp.length_le
    rw [nums_length, List.length_drop, nums_length] at hl
    refine ⟨by omega, ?_⟩
    apply nums_inj
    rw [nums_extract, show at0 + s.size - at0 = s.size by omega]
    have := List.prefix_iff_eq_take.1 hp
    rw [nums_length] at this
    exact this.symm
  · rintro ⟨hl, e⟩
    have := congrArg nums e
    rw [nums_extract, show at0 + s.size - at0 = s.size by omega] at this
    rw [← this]
    exact List.take_prefix _ _

set_option maxRecDepth 20000 in
set_option maxHeartbeats 4000000 in
theorem finds_walk (v : Value) (L : List ByteArray) (b : ByteArray) (w : World) (h : ListIn w v L) :
    Calls Try.prog 5 #[v, .string b] w fun e w' => e = .returned (.bool true) ∧ Below w.heap.size w w' := by
  have H := hid h
  by_cases hf : FewL L
  · have hd1 : fewB L = true := decide_eq_true hf
    have hsz := hf.sizes
    have HSZ := hid hf.2
    by_cases hcond : b.size ≤ 200
    · have hdc : decide ((200 : Int) < (b.size : Int)) = false := decide_eq_false (by omega)
      have hdc2 : decide (200 < b.size) = false := decide_eq_false (by omega)
      rcases fine_or_bad L with hL | ⟨cd, a0, hL⟩
      · have HF := hid hL
        have hl100 := hL.1
        obtain ⟨⟨a, ca, rfl, ha⟩, _, _⟩ := h
        rw [strs_length] at *
        clear ha hL hsz hf
        obtain ⟨xs, hxs⟩ : ∃ xs, xs = hitsT (L.map nums) 0 [] (nums b) := ⟨_, rfl⟩
        obtain ⟨N, hN⟩ : ∃ N, N = xs.length := ⟨_, rfl⟩
        have hN9 : N ≤ 8000 := by
          have h1 := hitsT_few (L.map nums) 40 (fun x hx => by obtain ⟨s, hs, rfl⟩ := List.mem_map.1 hx; rw [nums_length]; exact (((fine_iff L).1 HF.out).2.1 s hs).2) (nums b) 0 []
          rw [nums_length, ← hxs, ← hN] at h1
          omega
        have HXS := hid hxs
        have HN := hid hN
        clear hxs hN
        go_enter Try.func5, Try.ntmps5
        go_wp2_with (first
          | (go_at_call 8; refine (few_any H.out).mono ?_; rintro e w1 ⟨rfl, rfl⟩; rw [hd1])
          | (go_at_call 9; refine (alive_any _).mono ?_; rintro e w2 ⟨rfl, hb2⟩; have H2 := hid (H.out.below hb2); have HB2 := hid hb2; clear hb2)
          | (go_at_call 10; refine (phrases_fine H2.out.1 HF.out).mono ?_; rintro e w3 ⟨rfl, rfl⟩)
          | (go_at_call 11; refine (makeL_fine H2.out.1 HF.out).mono ?_; rintro e w4 ⟨l, t, rfl, hx4, hb4⟩; have hr4 := ready_of hx4 HF.out; have HR := hid hr4; have HX := hid hx4; have HL4 := hid (H2.out.1.below hb4); have HB4 := hid (below_more HB2.out hb4); clear hx4 hb4 hr4)
          | (go_at_call 18; refine (allS_in (ready_links HX.out) (Below.refl _ _) HR.out.father HR.out.mem HR.out.some HR.out.short b (by omega)).mono ?_; rintro e w5 ⟨v5, k5, rfl, ho5, hb5⟩; have hr5 := ownsRow_readsH ho5; rw [← HXS.out] at hr5; obtain ⟨g5, c5, rfl, hr5⟩ := hr5; rw [asHits_length, ← HN.out]; have HO5 := hid hr5; have HL5 := hid (HL4.out.below hb5); have HB5 := hid (below_more HB4.out hb5); clear ho5 hr5 hb5))
        clear HX HR H H2 HB2 HB4
        have hL5 := HL5.out
        obtain ⟨aL, cL, eL, hL5⟩ := hL5
        rw [strs_length] at eL hL5
        injection eL with eL1 eL2 eL3
        subst eL1
        subst eL3
        have HLL := hid hL5
        clear hL5 eL2
        go_loopw [40] (fun vi wr => ∃ i : Nat, vi = .int .i64 i ∧ i ≤ N ∧ Hid (Below w5.heap.size w5 wr)) (fun vi _ => N - (intOf vi).toNat)
        case atStart => exact ⟨0, rfl, by omega, Below.refl _ _⟩
        case round =>
          obtain ⟨i, rfl, hi, hbl⟩ := hrel
          by_cases hlt : i < N
          · rcases HO5.out with h0 | ⟨gb, off, rfl, hgb, hcell⟩
            · rw [asHits_length, ← HN.out] at h0; omega
            have hcell2 : ∀ j E K, (∃ h : j < (hitsT (L.map nums) 0 [] (nums b)).length, (hitsT (L.map nums) 0 [] (nums b))[j]'h = (E, K)) → wr.cell? ⟨gb, off + j * 2, none⟩ = some (.int .i64 (E : Int)) ∧ wr.cell? ⟨gb, off + j * 2 + 1, none⟩ = some (.int .i64 (K : Int)) := by
              rintro j E K ⟨hj, e⟩
              have hjx : j < xs.length := by rw [HXS.out]; exact hj
              have h2 := hcell j (by rw [asHits_length]; exact hjx)
              have e2 : xs[j]'hjx = (E, K) := by simp only [HXS.out]; exact e
              have e3 : (asHits xs)[j]'(by rw [asHits_length]; exact hjx) = ((E : Int), (K : Int)) := by simp [asHits, e2]
              rw [e3] at h2
              rw [hbl.out.cell (p := ⟨gb, off + j * 2, none⟩) hgb, hbl.out.cell (p := ⟨gb, off + j * 2 + 1, none⟩) hgb]
              exact h2
            have HC2 := hid hcell2
            have hLn : 0 < L.length := by
              obtain ⟨E, K, s, _, hI⟩ := hit_told (L := L) b i (by rw [← HXS.out, ← HN.out]; exact hlt)
              have := (List.getElem?_eq_some_iff.1 hI.2.1).1
              omega
            rcases HLL.out with h0 | ⟨gl, ol, rfl, hgl, hcelll⟩
            · omega
            have hcl2 : ∀ K s, L[K]? = some s → K < L.length ∧ wr.cell? ⟨gl, ol + K, none⟩ = some (.string s) := by
              intro K s hK
              have hk := (List.getElem?_eq_some_iff.1 hK).1
              refine ⟨hk, ?_⟩
              rw [hbl.out.cell (p := ⟨gl, ol + K, none⟩) hgl, hcelll K hk, strs_at L K hk]
              rw [List.getElem?_eq_getElem hk] at hK
              injection hK with hK
              rw [hK]
            have HCL2 := hid hcl2
            clear hcell hcell2 hcelll hcl2
            obtain ⟨E, K, s, hEK, hI⟩ := hit_told (L := L) b i (by rw [← HXS.out, ← HN.out]; exact hlt)
            have HEK := hid hEK
            have HI := hid hI
            obtain ⟨hE1, hE2, hE3, hE4⟩ := hI
            obtain ⟨hcb1, hcb2⟩ := HC2.out i E K ⟨_, hEK⟩
            obtain ⟨hKL, hcs⟩ := HCL2.out K s hE2
            have HE4 := hid hE4
            obtain ⟨D, hD⟩ : ∃ D, D = E - s.size := ⟨_, rfl⟩
            have hwr : IntKind.i64.wrap ((E : Int) - (s.size : Int)) = (D : Int) := by rw [i64_in _ (by omega)]; omega
            have hsl : ∀ W : World, (Instr.slice 9 (.string b) (some (.int .i64 (D : Int))) (some (.int .i64 (E : Int))) none).run Try.prog W = .ok (.string s) W := fun W => by
              rw [run_slice_string (P := Try.prog) W 9 b .i64 .i64 _ _ Try.underlying9 (by omega) (by omega) (by omega)]
              rw [show ((D : Int)).toNat = E - s.size by omega, show ((E : Int)).toNat = E by omega, HE4.out]
            have hx1 : (decide ((0 : Int) ≤ (i : Int) ∧ (i : Int) < (N : Int))) = true := decide_eq_true ⟨by omega, by omega⟩
            have hx2 : (decide ((0 : Int) ≤ (K : Int) ∧ (K : Int) < (L.length : Int))) = true := decide_eq_true ⟨by omega, by omega⟩
            have hd01 : decide ((K : Int) < 0) = false := decide_eq_false (by omega)
            have hd02 : decide ((L.length : Int) ≤ (K : Int)) = false := decide_eq_false (by omega)
            have hd03 : decide (L.length ≤ K) = false := decide_eq_false (by omega)
            have hd04 : decide ((b.size : Int) < (E : Int)) = false := decide_eq_false (by omega)
            have hd05 : decide (b.size < E) = false := decide_eq_false (by omega)
            have hd06 : decide ((E : Int) < (s.size : Int)) = false := decide_eq_false (by omega)
            have hd07 : decide (E < s.size) = false := decide_eq_false (by omega)
            have hcsA := fun o => keeps ((Below.refl wr.heap.size wr).alloc (Nat.le_refl _) o) _ _ hcs
            clear hEK hE2 hE4 hD
            go_wp2
            simp only [List.append_eq, List.cons_append, List.nil_append]
            refine wp_region_quiet_lit (by kernel_rfl) (by as_aux_lemma => kernel_rfl) ?_
            by_cases hi0 : i = 0
            · have hdz : decide ((0 : Int) < (i : Int)) = false := decide_eq_false (by omega)
              have hdz2 : decide (0 < i) = false := decide_eq_false (by omega)
              clear hi0
              as_aux_lemma =>
                repeat (go_big_quiet_step (fail))
                refine wpQuiet_nil ?_
                intro _ hw'
                obtain ⟨nq, hw''⟩ := hw'
                subst hw''
                go_wp2
                go_roundw
                case rel => exact ⟨i + 1, by go_num, by omega, (hbl.out.alloc hbl.out.size _).trans (drewN_below _ _ _)⟩
                case measure => simp [intOf]; omega
            · obtain ⟨m, rfl⟩ : ∃ m, i = m + 1 := ⟨i - 1, by omega⟩
              obtain ⟨E2, K2, s2, hEK2, hI2⟩ := hit_told (L := L) b m (by rw [← HXS.out, ← HN.out]; omega)
              have haf := hit_after b m (by rw [← HXS.out, ← HN.out]; exact hlt) hEK2 HEK.out hI2 HI.out
              obtain ⟨hF1, hF2, hF3, hF4⟩ := hI2
              obtain ⟨hcp1, hcp2⟩ := HC2.out m E2 K2 ⟨_, hEK2⟩
              obtain ⟨hKL2, hcs2⟩ := HCL2.out K2 s2 hF2
              have hcsB := fun o => keeps ((Below.refl wr.heap.size wr).alloc (Nat.le_refl _) o) _ _ hcs2
              have hcpA := fun o => keeps ((Below.refl wr.heap.size wr).alloc (Nat.le_refl _) o) _ _ hcp1
              have hcpB := fun o => keeps ((Below.refl wr.heap.size wr).alloc (Nat.le_refl _) o) _ _ hcp2
              have hx3 : (decide ((0 : Int) ≤ (m : Int) ∧ (m : Int) < (N : Int))) = true := decide_eq_true ⟨by omega, by omega⟩
              have hx4 : (decide ((0 : Int) ≤ (K2 : Int) ∧ (K2 : Int) < (L.length : Int))) = true := decide_eq_true ⟨by omega, by omega⟩
              have hdz : decide ((0 : Int) < ((m + 1 : Nat) : Int)) = true := decide_eq_true (by omega)
              have hdz2 : decide (0 < m + 1) = true := decide_eq_true (by omega)
              have hdp : decide ((0 : Int) < (m : Int) + 1) = true := decide_eq_true (by omega)
              have hm0 : IntKind.i64.wrap ((m : Int) + 1 - 1) = (m : Int) := by rw [i64_in _ (by omega)]; omega
              have hm3 : IntKind.i64.wrap (((m + 1 : Nat) : Int) - 1) = (m : Int) := by rw [i64_in _ (by omega)]; omega
              have hm1 : (m : Int) + 1 - 1 = (m : Int) := by omega
              have hm2 : ((m + 1 : Nat) : Int) - 1 = (m : Int) := by omega
              have hd11 : decide ((E : Int) < (E2 : Int)) = false := decide_eq_false (by omega)
              have hd12 : decide (E < E2) = false := decide_eq_false (by omega)
              clear hEK2 hF2 hF4 hi0
              rcases haf with h1 | ⟨h1, h2⟩
              · have hd13 : ((E2 : Int) == (E : Int)) = false := beq_false_of_ne (by omega)
                have hd14 : (E2 == E) = false := beq_false_of_ne (by omega)
                as_aux_lemma =>
                  repeat (go_big_quiet_step (fail))
                  refine wpQuiet_nil ?_
                  intro _ hw'
                  obtain ⟨nq, hw''⟩ := hw'
                  subst hw''
                  go_wp2
                  go_roundw
                  case rel => exact ⟨m + 1 + 1, by go_num, by omega, (hbl.out.alloc hbl.out.size _).trans (drewN_below _ _ _)⟩
                  case measure => simp [intOf]; omega
              · subst h1
                have hd15 : decide ((s2.size : Int) ≤ (s.size : Int)) = false := decide_eq_false (by omega)
                have hd16 : decide (s2.size ≤ s.size) = false := decide_eq_false (by omega)
                as_aux_lemma =>
                  repeat (go_big_quiet_step (fail))
                  refine wpQuiet_nil ?_
                  intro _ hw'
                  obtain ⟨nq, hw''⟩ := hw'
                  subst hw''
                  go_wp2
                  go_roundw
                  case rel => exact ⟨m + 1 + 1, by go_num, by omega, (hbl.out.alloc hbl.out.size _).trans (drewN_below _ _ _)⟩
                  case measure => simp [intOf]; omega
          · obtain rfl : i = N := by omega
            obtain ⟨P, hP⟩ : ∃ P, P = L.map nums := ⟨_, rfl⟩
            have HPE := hid hP
            have HCNT : Hid (i = cntT P (nums b)) := by
              show _ = _
              rw [HN.out, HXS.out, ← hP]
              refine hitsT_count P ?_ (by rw [hP]; exact phrase_some HF.out) _
              rw [hP]
              have := ((fine_iff L).1 HF.out).2.2.2
              exact List.Pairwise.map nums (fun a b h e => h (nums_inj _ _ e)) this
            have HS40 : Hid (∀ s ∈ L, s.size ≤ 40) := fun s hs => (((fine_iff L).1 HF.out).2.1 s hs).2
            have hbl0 := hbl
            clear hP
            go_wp2
            go_loopw [10, 11] (fun vn va wr2 => ∃ n at0 : Nat, vn = .int .i64 n ∧ va = .int .i64 at0 ∧ at0 ≤ b.size ∧ n ≤ at0 * 100 ∧ Hid (n = cntU P (nums b) at0) ∧ Hid (Below w5.heap.size w5 wr2)) (fun _ va _ => b.size - (intOf va).toNat)
            case atStart => exact ⟨0, 0, rfl, rfl, by omega, by omega, rfl, hbl.out⟩
            case round =>
              obtain ⟨n, at0, rfl, rfl, hat, hn, hcn, hbl⟩ := hrel
              by_cases hlt2 : at0 < b.size
              · have hda : decide ((at0 : Int) < (b.size : Int)) = true := decide_eq_true (by omega)
                go_wp2
                go_loopw [10, 148] (fun vn vk wr3 => ∃ n2 k : Nat, vn = .int .i64 n2 ∧ vk = .int .i64 k ∧ k ≤ L.length ∧ n2 ≤ n + k ∧ Hid (n2 = n + ((P.take k).filter (fun s => decide (s <+: (nums b).drop at0))).length) ∧ Hid (Below w5.heap.size w5 wr3)) (fun _ vk _ => L.length - (intOf vk).toNat)
                case atStart => exact ⟨n, 0, rfl, rfl, by omega, by omega, by show _ = _; simp, hbl.out⟩
                case round =>
                  obtain ⟨n2, k, rfl, rfl, hk, hn2, hc2, hb3⟩ := hrel
                  by_cases hlt3 : k < L.length
                  · rcases HLL.out with h0 | ⟨gl, ol, rfl, hgl, hcelll⟩
                    · omega
                    have hcs : wr.cell? ⟨gl, ol + k, none⟩ = some (.string (L[k]'hlt3)) := by
                      rw [hb3.out.cell (p := ⟨gl, ol + k, none⟩) hgl, hcelll k hlt3, strs_at L k hlt3]
                    have hPk : P[k]'(by rw [HPE.out, List.length_map]; exact hlt3) = nums (L[k]'hlt3) := by simp only [HPE.out, List.getElem_map]
                    have htk : P.take (k + 1) = P.take k ++ [nums (L[k]'hlt3)] := by rw [List.take_succ_eq_append_getElem (by rw [HPE.out, List.length_map]; exact hlt3), hPk]
                    have hs40 := HS40.out (L[k]'hlt3) (List.getElem_mem _)
                    have hst := stand_cut b (L[k]'hlt3) at0 hat
                    clear hcelll
                    generalize L[k]'hlt3 = s at *
                    have hfl : ((P.take (k + 1)).filter (fun s => decide (s <+: (nums b).drop at0))).length = ((P.take k).filter (fun s => decide (s <+: (nums b).drop at0))).length + (if nums s <+: (nums b).drop at0 then 1 else 0) := by
                      rw [htk, List.filter_append, List.length_append]
                      congr 1
                      by_cases h : nums s <+: (nums b).drop at0
                      · rw [if_pos h, List.filter_cons_of_pos (by simpa using h)]; rfl
                      · rw [if_neg h, List.filter_cons_of_neg (by simpa using h)]; rfl
                    obtain ⟨Q, hQ⟩ : ∃ Q, Q = at0 + s.size := ⟨_, rfl⟩
                    have hQ2 : (at0 : Int) + (s.size : Int) = (Q : Int) := by omega
                    have hx' : (decide ((0 : Int) ≤ (k : Int) ∧ (k : Int) < (L.length : Int))) = true := decide_eq_true ⟨by omega, by omega⟩
                    have hQ4 : at0 ≤ Q := by omega
                    have hQ5 : Q ≤ 240 := by omega
                    have hwq : IntKind.i64.wrap ((at0 : Int) + (s.size : Int)) = (Q : Int) := by rw [i64_in _ (by omega)]; omega
                    rw [← hQ] at hst
                    have HST := hid hst
                    have HFL := hid hfl
                    clear hst hfl htk hPk hQ
                    by_cases hle : Q ≤ b.size
                    · have hd1' : decide ((Q : Int) ≤ (b.size : Int)) = true := decide_eq_true (by omega)
                      have hd2' : decide (Q ≤ b.size) = true := decide_eq_true hle
                      have hsl : ∀ W : World, (Instr.slice 9 (.string b) (some (.int .i64 (at0 : Int))) (some (.int .i64 (Q : Int))) none).run Try.prog W = .ok (.string (b.extract at0 Q)) W := fun W => by
                        rw [run_slice_string (P := Try.prog) W 9 b .i64 .i64 _ _ Try.underlying9 (by omega) (by omega) (by omega)]
                        rw [show ((at0 : Int)).toNat = at0 by omega, show ((Q : Int)).toNat = Q by omega]
                      by_cases heq : b.extract at0 Q = s
                      · have hte := text_eq heq
                        have HF1 : Hid (n2 + 1 = n + ((P.take (k + 1)).filter (fun s => decide (s <+: (nums b).drop at0))).length) := by
                          show _ = _
                          rw [HFL.out, if_pos (HST.out.2 ⟨hle, heq⟩), hc2.out]; omega
                        generalize b.extract at0 Q = x at *
                        clear heq
                        go_wp2
                        go_roundw
                        case rel => exact ⟨n2 + 1, k + 1, by go_num, by go_num, by omega, by omega, HF1.out, hb3.out⟩
                        case measure => simp [intOf]; omega
                      · have hte := text_ne heq
                        have HF1 : Hid (n2 = n + ((P.take (k + 1)).filter (fun s => decide (s <+: (nums b).drop at0))).length) := by
                          show _ = _
                          rw [HFL.out, if_neg (fun h => heq (HST.out.1 h).2), hc2.out]; omega
                        generalize b.extract at0 Q = x at *
                        clear heq
                        go_wp2
                        go_roundw
                        case rel => exact ⟨n2, k + 1, rfl, by go_num, by omega, by omega, HF1.out, hb3.out⟩
                        case measure => simp [intOf]; omega
                    · have hd1' : decide ((Q : Int) ≤ (b.size : Int)) = false := decide_eq_false (by omega)
                      have hd2' : decide (Q ≤ b.size) = false := decide_eq_false hle
                      have HF1 : Hid (n2 = n + ((P.take (k + 1)).filter (fun s => decide (s <+: (nums b).drop at0))).length) := by
                        show _ = _
                        rw [HFL.out, if_neg (fun h => hle (HST.out.1 h).1), hc2.out]; omega
                      go_wp2
                      go_roundw
                      case rel => exact ⟨n2, k + 1, rfl, by go_num, by omega, by omega, HF1.out, hb3.out⟩
                      case measure => simp [intOf]; omega
                  · obtain rfl : k = L.length := by omega
                    have HU : Hid (n2 = cntU P (nums b) (at0 + 1)) := by
                      show _ = _
                      rw [cntU_succ, ← hcn.out, hc2.out, List.take_of_length_le (by rw [HPE.out, List.length_map]; exact Nat.le_refl _)]
                    have hdk : decide ((L.length : Int) < (L.length : Int)) = false := decide_eq_false (by omega)
                    go_wp2
                    go_roundw
                    case rel => exact ⟨n2, at0 + 1, rfl, by go_num, by omega, by omega, HU.out, hb3.out⟩
                    case measure => simp [intOf]; omega
              · obtain rfl : at0 = b.size := by omega
                have hni : n = i := by rw [hcn.out, HCNT.out, cntT, cntU, nums_length]
                subst hni
                go_wp2
                go_ret
                exact ⟨by simp, below_more HB5.out hbl.out⟩
      · go_enter Try.func5, Try.ntmps5
        have hc0 : ¬ cd = 0 := bad_code hL
        go_wp2_with (first
          | (go_at_call 8; refine (few_any H.out).mono ?_; rintro e w1 ⟨rfl, rfl⟩; rw [hd1])
          | (go_at_call 9; refine (alive_any _).mono ?_; rintro e w2 ⟨rfl, hb2⟩; have H2 := hid (H.out.below hb2))
          | (go_at_call 10; refine (phrases_bad H2.out.1 hsz.1 (fun s hs => by have := hsz.2 s hs; omega) hL).mono ?_; rintro e w3 ⟨rfl, rfl⟩))
        go_ret
        exact ⟨rfl, hb2⟩
    · have hdc : decide ((200 : Int) < (b.size : Int)) = true := decide_eq_true (by omega)
      have hdc2 : decide (200 < b.size) = true := decide_eq_true (by omega)
      go_enter Try.func5, Try.ntmps5
      go_wp2_with (first
        | (go_at_call 8; refine (few_any H.out).mono ?_; rintro e w1 ⟨rfl, rfl⟩; rw [hd1])
        | (go_at_call 9; refine (alive_any _).mono ?_; rintro e w2 ⟨rfl, hb2⟩))
      go_ret
      exact ⟨rfl, hb2⟩
  · have hd1 : fewB L = false := decide_eq_false hf
    go_enter Try.func5, Try.ntmps5
    go_wp2_with (first
      | (go_at_call 8; refine (few_any H.out).mono ?_; rintro e w1 ⟨rfl, rfl⟩; rw [hd1])
      | (go_at_call 9; refine (alive_any _).mono ?_; rintro e w2 ⟨rfl, hb2⟩))
    go_ret
    exact ⟨rfl, hb2⟩

set_option linter.unusedVariables false
theorem scanFinds_own : ownKnob Try.prog.godebug = none := by kernel_rfl

theorem scanFinds_laidOut : laidOutB Try.prog = true := by kernel_rfl

set_option maxRecDepth 100000 in
theorem scanFinds_lifted (os : Os) (started : os.Started) (H : Type) (enc : TypeId × Value → H) :
    ReturnsInHanded {} Try.checked os 5 .any (Rows.scanFindsSpec.pre6 enc Try.prog Try.f5 Rows.scanFindsRow.domain false) (Rows.scanFindsSpec.post enc Try.prog Try.f5 false true false false) := by
  refine returnsInHanded_of_change_sized (C := Try.checked) scanFinds_own started (by kernel_rfl) Try.func5
    (ChangeSpec.witness6 (enc := enc) (C := Try.checked) false ⟨#[], #[.slice none 0 0, .string ByteArray.empty], []⟩ 8 (by kernel_rfl) (by kernel_rfl) (by kernel_rfl) (by kernel_rfl)) ?_
  intro W base args ds gs before hval0 hW hcnd hsz0 _
  have hsz : (DataW.weightsEach Try.prog (Try.f5.params.toList ++ Rows.scanFindsSpec.plain.varTypes Try.prog) (ds ++ gs)).all (· ≤ reachBytes) = true := hsz0
  have hval : ∀ (j : Nat) t v, Try.f5.params[j]? = some t → args[j]? = some v → Value.okWide Try.prog W .any base t v := hval0
  have hW' := hW
  obtain ⟨p, q, hA0, hV, rfl, hfz, hnd⟩ := hW
  have hA : DataW.TrodAll enc Try.prog W 0 (fun _ => true) true Try.f5.params.toList args.toList ds p := hA0
  rw [Try.params5] at hA hval hsz
  obtain ⟨v0, vs0, d0, ds0, p0, q0, hargs, rfl, rfl, h0, r0⟩ := trodAll_cons hA
  obtain ⟨v1, vs1, d1, ds1, p1, q1, rfl, rfl, rfl, h1, r1⟩ := trodAll_cons r0
  obtain ⟨rfl, rfl, rfl⟩ := trodAll_nil r1
  obtain rfl : args = #[v0, v1] := by cases args; simp_all
  obtain ⟨rfl, rfl⟩ := trodVars_none hV
  obtain ⟨a0, len0, cap0, rfl⟩ := okWide_slice Try.underlying22 (hval 0 22 v0 rfl rfl)
  have k0 := h0
  have lt0 : ∀ x ∈ p0, x.block < W.heap.size := by obtain ⟨m, hm⟩ := k0; exact DataW.trod_lt m _ _ _ hm
  obtain ⟨z0, w0⟩ := h0.elim (fun _ hf => open_list hf hsz 0 rfl rfl)
  obtain ⟨a1, rfl, rfl, rfl, w1⟩ := open_string Try.underlying9 (hval 1 9 v1 rfl rfl) h1
  clear hA0 hval0
  have s1 : a1.size ≤ 140737488351232 := by have h := sized_string hsz (j := 1) (t := 9) rfl rfl; rw [Array.length_toList] at h; exact h
  refine (finds_walk _ z0 a1 W w0).mono fun e W' ⟨he, bel⟩ => ?_
  subst he
  exact ⟨_, rfl, _, _, _, [], _, [], hW', trodAll_mk1 (shut_bool Try.underlying4 _), (trodAll_cons_mk (Below.trod scanFinds_laidOut (by kernel_rfl) (of_decide_eq_true (by kernel_rfl)) k0 bel lt0) (trodAll_cons_mk (shut_string Try.underlying9 w1) trodAll_mk0)), rfl, bel.frame _, fun h => by cases h⟩

/-- THE STATEMENT. -/
theorem scanFinds_holds : Rows.ScanFindsSaid :=
  OpenClaim.holds_of_wide 5 Try.f5 rfl rfl rfl rfl rfl rfl rfl ⟨rfl, rfl, rfl, rfl, rfl⟩ rfl rfl rfl rfl rfl (by kernel_rfl) Try.func5 (by kernel_rfl)
    (of_decide_eq_true (by kernel_rfl)) (by unfold Func.isWrapper; first | (rw [if_pos (by decide +kernel)]; kernel_rfl) | (rw [if_neg (by decide +kernel)]; exact ⟨rfl, rfl⟩))
    (fun os started H enc _ => scanFinds_lifted os started H enc)
#print axioms scanFinds_holds
end Go.Proofs.Ytmaadeeocppkfaa
