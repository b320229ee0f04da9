/-
  DenseRows: a node's row is the root's, but for the bytes that are told; a node's sons are in it. For every list of texts, every number.
-/
import Derived.Test.YtcbnlhgkihhakaaAlive10
import Derived.Test.YtcbnlhgkihhakaaDenseSparse
import Derived.Test.YtcbnlhgkihhakaaByteSet
import Derived.Test.YtcbnlhgkihhakaaRefPhrases
import Derived.Test.YtcbnlhgkihhakaaNodeCalls
import Derived.IntWalk
import Derived.ChangeOld
import Derived.SizedLaws
namespace Go.Proofs.Ytcbnlhgkihhakaa
open Go.ChangeShapes Go.WideShapes Go.ChangeAt Go.RowKit

theorem cut_into (a : Int) (k : Nat) (h1 : 1 ≤ k) (h5 : k ≤ 1000000) : ∃ j : Nat, j < k ∧ (a.tmod (k : Int) + (k : Int)) % (k : Int) = (j : Int) ∧ a.tmod (k : Int) + (k : Int) ≤ 2000000 ∧ 0 < a.tmod (k : Int) + (k : Int) := by
  have x := Int.tmod_lt_of_pos a (show (0 : Int) < (k : Int) by omega)
  have b := Int.lt_tmod_of_pos a (show (0 : Int) < (k : Int) by omega)
  have c := Int.emod_nonneg (a.tmod (k : Int) + (k : Int)) (show (k : Int) ≠ 0 by omega)
  have d := Int.emod_lt_of_pos (a.tmod (k : Int) + (k : Int)) (show (0 : Int) < (k : Int) by omega)
  exact ⟨((a.tmod (k : Int) + (k : Int)) % (k : Int)).toNat, by omega, by omega, by omega, by omega⟩

theorem not_ahead (O : List Nat) (hn : O.Nodup) (j : Nat) (hj : j < O.length) : O[j]'hj ∉ O.take j := by
  intro h
  obtain ⟨i, hi, e⟩ := List.getElem_of_mem h
  rw [List.length_take] at hi
  rw [List.getElem_take] at e
  have := (List.getElem_inj hn).1 e
  omega

theorem sparseN_once (A : List (List Nat)) (j k : Nat) : (sparseN A j k).Nodup := List.Pairwise.filter _ List.nodup_range

theorem sparseN_mem (A : List (List Nat)) (j k c : Nat) : c ∈ sparseN A j k ↔ c < k ∧ stepN A j c ≠ stepN A 0 c := by
  simp [sparseN]

theorem ready_links {w : World} {l t : Nat} {L : List ByteArray} (h : LinksOf w l t L) : LinksAt w l t (nodesN (L.map nums)) (L.map nums) (wordOf (L.map nums)) := h

set_option maxRecDepth 20000 in
set_option maxHeartbeats 4000000 in
theorem rows_walk (v : Value) (L : List ByteArray) (a1 : Int) (w : World) (h : ListIn w v L) :
    Calls Try.prog 4 #[v, .int .i64 a1] w fun e w' => e = .returned (.bool true) ∧ Below w.heap.size w w' := by
  have H := hid h
  obtain ⟨⟨a, ca, rfl, ha⟩, hq2, hq3⟩ := h
  rw [strs_length] at *
  clear ha hq2 hq3
  by_cases hf : FewL L
  · have hd1 : fewB L = true := decide_eq_true hf
    have hsz := hf.sizes
    have HSZ := hid hf.2
    by_cases hcond : L.length ≤ 30
    · have hd30 : decide ((30 : Int) < (L.length : Int)) = false := decide_eq_false (by omega)
      have hd30b : decide (30 < L.length) = false := decide_eq_false (by omega)
      rcases fine_or_bad L with hL | ⟨cd, a0, hL⟩
      · have HF := hid hL
        have hl100 := hL.1
        clear hL hsz hf
        obtain ⟨A, hA⟩ : ∃ A, A = nodesN (L.map nums) := ⟨_, rfl⟩
        obtain ⟨P, hP⟩ : ∃ P, P = L.map nums := ⟨_, rfl⟩
        obtain ⟨N, hn⟩ : ∃ N, N = A.length := ⟨_, rfl⟩
        have hn9 : N ≤ 1000000 := by rw [hn, hA]; exact nodes_most HF.out
        have hn1 : 1 ≤ N := by rw [hn, hA]; exact nodes_some L
        obtain ⟨j, hj, hcut, hs1, hs2⟩ := cut_into a1 N hn1 hn9
        have hN0 : ¬ ((N : Nat) : Int) = 0 := by omega
        have HAE := hid hA
        have HPE := hid hP
        have HNE := hid hn
        have hdl1 : decide ((N : Int) < 1) = false := decide_eq_false (by omega)
        have hdl2 : decide (N < 1) = false := decide_eq_false (by omega)
        clear hA hP hn
        have hmm := @run_makeMap Try.prog
        go_enter Try.func4, Try.ntmps4
        go_wp2_with (first
          | (go_at_call 6; refine (few_any H.out).mono ?_; rintro e w1 ⟨rfl, rfl⟩; rw [hd1])
          | (go_at_call 7; refine (alive_any _).mono ?_; rintro e w2 ⟨rfl, hb2⟩; have H2 := hid (H.out.below hb2); have HB2 := hid hb2; clear hb2)
          | (go_at_call 8; refine (phrases_fine H2.out.1 HF.out).mono ?_; rintro e w3 ⟨rfl, rfl⟩)
          | (go_at_call 9; refine (makeL_fine H2.out.1 HF.out).mono ?_; rintro e w4 ⟨l, t, rfl, hx4, hb4⟩; have hr4 := ready_of hx4 HF.out; have HR := hid hr4; have HX := hid hx4; have HL4 := hid (H2.out.1.below hb4); have HB4 := hid (below_more HB2.out hb4); clear hx4 hb4 hr4)
          | (go_at_call 10; refine (newT_in (show LinksAt w4 l t A P (wordOf P) by rw [HAE.out, HPE.out]; exact HX.out) (by rw [HAE.out]; exact HR.out.father)).mono ?_; rintro e w5 ⟨p, rfl, ht5, hp5, hb5⟩; have HB5 := hid (below_more HB4.out hb5); obtain ⟨rp, ht55⟩ := ht5.2; have HT5 : Hid (TbAt w5 p l rp N (stepN A)) := (by have h := ht55; rw [← HNE.out] at h; exact h); have HL5 := hid ht5.1; have HR2 : Hid (Ready A P) := (by show Ready A P; rw [HAE.out, HPE.out]; exact HR.out); clear ht5 ht55 hp5 hb5)
          | (go_at_call 20; refine (trieL_in HL5.out).mono ?_; rintro e w51 ⟨rfl, rfl⟩)
          | (go_at_call 16; refine (lenT_in HT5.out).mono ?_; rintro e w52 ⟨rfl, rfl⟩))
        go_quiet ((go_at_call 16; exact Calls.quiet_of_same (lenT_in (HT5.out.drewN _))))
        rw [hcut]
        have HT6 := hid (HT5.out.drewN nq)
        have HL6 := hid (HL5.out.later (drewN_below w52 nq _))
        have HB6 := hid (below_more HB5.out (drewN_below w52 nq _))
        generalize w52.drewN nq = w6 at *
        obtain ⟨S, hS⟩ : ∃ S, S = sparseN A j 256 := ⟨_, rfl⟩
        obtain ⟨m, hm⟩ : ∃ m, m = S.length := ⟨_, rfl⟩
        have hm256 : m ≤ 256 := by rw [hm, hS]; exact sparseN_length A j 256
        have HSE := hid hS
        have HME := hid hm
        have HSN : Hid S.Nodup := by rw [hS]; exact sparseN_once A j 256
        have HSM : Hid (∀ c, c < 256 → (c ∈ S ↔ stepN A j c ≠ stepN A 0 c)) := fun c hc => by
          rw [hS, sparseN_mem]
          exact ⟨fun h => h.2, fun h => ⟨hc, h⟩⟩
        clear hS hm hcut hs1 hs2 HL4 HB4 HX HR H H2 HB2 HT5 HL5 HB5
        go_wp2_with (first
          | (have _h := HT7; go_at_call 21; refine (rowT_in HT7.out 0 (by omega)).mono ?_; rintro e w8 ⟨v8, rfl, ho8, hb8⟩; obtain ⟨a8, c8, rfl⟩ := ownsRow_slice ho8; have HR8 := hid (ownsRow_reads ho8); have HR78 := hid (HR7.out.below hb8); have HT8 := hid (HT7.out.later hb8); have HL8 := hid (HL7.out.later hb8); have HB8 := hid (below_more HB7.out hb8); clear ho8 hb8)
          | (go_at_call 21; refine (rowT_in HT6.out j hj).mono ?_; rintro e w7 ⟨v7, rfl, ho7, hb7⟩; obtain ⟨a7, c7, rfl⟩ := ownsRow_slice ho7; have HR7 := hid (ownsRow_reads ho7); have HT7 := hid (HT6.out.later hb7); have HL7 := hid (HL6.out.later hb7); have HB7 := hid (below_more HB6.out hb7); clear ho7 hb7)
          | (go_at_call 22; refine (sparseT_in (HT8.out.later ((Below.refl _ _).alloc (Nat.le_refl _) _)) j hj).mono ?_; rintro e w9 ⟨v9, rfl, ho9, hb9⟩; rw [← HSE.out, ← HME.out] at ho9; obtain ⟨a9, c9, rfl⟩ := ownsRow_slice ho9; have HO9 := hid ho9; have HB9 := hid hb9; clear ho9 hb9))
        obtain ⟨b, hb0⟩ : ∃ b, b = w8.heap.size := ⟨_, rfl⟩
        have HB0 := hid hb0
        have hba : Below w8.heap.size w8 (w8.alloc (Obj.map #[] 0)) := (Below.refl _ _).alloc (Nat.le_refl _) _
        have HB89 : Hid (Below w8.heap.size w8 w9) := hba.trans (HB9.out.mono (by simp))
        have HBS : Hid (SetB w9 b []) := by
          have h1 := SetB.new w8
          show SetB w9 b []
          rw [hb0]
          exact h1.same (HB9.out.block _ h1.lt)
        have HRA : Hid (Reads w9 (.slice a7 256 c7) (numsI ((List.range 256).map (stepN A j)))) := HR78.out.below HB89.out
        have HRB : Hid (Reads w9 (.slice a8 256 c8) (numsI ((List.range 256).map (stepN A 0)))) := HR8.out.below HB89.out
        have HL9 := hid (HL8.out.later HB89.out)
        have HBW := hid (below_more HB8.out HB89.out)
        have hbw : w1.heap.size ≤ b := by have := HB8.out.size; omega
        have hb9 : (w8.alloc (Obj.map #[] 0)).heap.size = b + 1 := by rw [hb0]; simp
        have HRS : Hid (Reads w9 (.slice a9 m c9) (octs S)) := ownsRow_reads HO9.out
        have HGB : Hid (∀ g, (Value.slice a9 m c9).ownBlock = some g → g ≠ b) := fun g hg => by
          have := (HO9.out.lt g hg).1
          rw [hb9] at this
          omega
        rw [← hb0]
        have HLT : Hid (∀ c ∈ S, c < 256) := fun c hc => by
          rw [HSE.out, sparseN_mem] at hc
          exact hc.1
        clear hba hb0 hb9 hmm HT6 HL6 HB6 HR7 HT7 HL7 HB7 HT8 HRA HRB HL9
        go_loopw [72] (fun vi wr => ∃ i : Nat, vi = .int .i64 i ∧ i ≤ m ∧ Hid (SetB wr b (S.take i)) ∧ Hid (Kept (· = b) w9 wr)) (fun vi _ => m - (intOf vi).toNat)
        case atStart => exact ⟨0, rfl, by omega, by rw [List.take_zero]; exact HBS.out, Kept.refl _ _⟩
        case round =>
          obtain ⟨i, rfl, hi, hB, hK⟩ := hrel
          by_cases hlt : i < m
          · obtain ⟨g, o, rfl, hg, hcell⟩ := reads_byte HRS.out HME.out i hlt
            have hgb := HGB.out g rfl
            have hiS : i < S.length := by have := HME.out; omega
            have hcr : wr.cell? ⟨g, o + i, none⟩ = some (.int .u8 ((S[i]'hiS : Nat) : Int)) := (World.cell?_of_block (w := w9) (a := ⟨g, o + i, none⟩) (hK.out.block g hg hgb)).trans hcell
            obtain ⟨c, hcE⟩ : ∃ c, c = S[i]'hiS := ⟨_, rfl⟩
            rw [← hcE] at hcr
            have hc : c < 256 := HLT.out c (by rw [hcE]; exact List.getElem_mem _)
            have hnot : c ∉ S.take i := by rw [hcE]; exact not_ahead S HSN.out i hiS
            have htk : Hid (S.take (i + 1) = S.take i ++ [c]) := by show _ = _; rw [List.take_succ_eq_append_getElem hiS, hcE]
            obtain ⟨w10, hrun, hB10, hK10⟩ := hB.out.add c hc hnot (by rw [List.length_take]; omega)
            have HB10 := hid hB10
            have HK10 := hid (hK.out.trans hK10)
            have hx3 : decide ((0 : Int) ≤ (i : Int) ∧ (i : Int) < (m : Int)) = true := decide_eq_true ⟨by omega, by omega⟩
            clear hcell hcE hnot hB10 hK10
            go_wp2
            go_roundw
            case rel => exact ⟨i + 1, by go_num, by omega, by show SetB _ _ _; rw [htk.out]; exact HB10.out, HK10.out⟩
            case measure => simp [intOf]; omega
          · obtain rfl : i = m := by omega
            have HBr : Hid (SetB wr b S) := by
              have h := hB.out
              rw [HME.out, List.take_length] at h
              exact h
            have hBw : Below w8.heap.size w8 wr := HB89.out.trans (hK.out.below HB89.out.size (by rintro k rfl; exact Nat.le_of_eq HB0.out.symm))
            have HRA := hid (HR78.out.below hBw)
            have HRB := hid (HR8.out.below hBw)
            have HLW := hid (HL8.out.later hBw)
            have HBW2 := hid (below_more HB8.out hBw)
            clear hB hBw hK HBS HO9 HRS HGB HB9 HB89
            obtain ⟨wq, rfl⟩ : ∃ wq, wq = wr := ⟨_, rfl⟩
            go_wp2
            go_loopw [15] (fun vi w2 => ∃ c : Nat, vi = .int .i64 c ∧ c ≤ 256 ∧ Hid (Below wq.heap.size wq w2)) (fun vi _ => 256 - (intOf vi).toNat)
            case atStart => exact ⟨0, rfl, by omega, Below.refl _ _⟩
            case round =>
              obtain ⟨c, rfl, hc, hB⟩ := hrel
              have hLr := HLW.out.later hB.out
              have HLr := hid hLr
              obtain ⟨Br, htr⟩ := hLr.trie
              have hSr := HBr.out.same (hB.out.block b HBr.out.lt)
              have HSr := hid hSr
              by_cases hlt : c < 256
              · have hcv : (IntKind.u8.wrap (c : Int)) = (c : Int) := by rw [IntKind.wrap_u8]; omega
                have hx4 : decide ((0 : Int) ≤ (c : Int) ∧ (c : Int) < 256) = true := decide_eq_true ⟨by omega, by omega⟩
                have hdc : decide ((c : Int) < 256) = true := decide_eq_true (by omega)
                obtain ⟨g1, o1, rfl, hg1, hcell1⟩ := reads_int HRA.out c hlt
                obtain ⟨g2, o2, rfl, hg2, hcell2⟩ := reads_int HRB.out c hlt
                have HC1 : Hid (∀ W, Below wq.heap.size wq W → W.cell? ⟨g1, o1 + c, none⟩ = some (.int .i64 (stepN A j c : Int)) ∧ W.cell? ⟨g2, o2 + c, none⟩ = some (.int .i64 (stepN A 0 c : Int)) ∧ (Instr.lookup 46 (.map (some b)) (.int .u8 (c : Int)) false).run Try.prog W = .ok (.bool (decide (c ∈ S))) W) := fun W hW => by
                  rw [hW.cell (p := ⟨g1, o1 + c, none⟩) hg1, hW.cell (p := ⟨g2, o2 + c, none⟩) hg2]
                  exact ⟨hcell1, hcell2, (HBr.out.same (hW.block b HBr.out.lt)).look c hlt⟩
                have hmem := HSM.out c hlt
                have HNX : Hid (∃ (d : Nat) (ok : Bool), (ok = true → d = stepN A j c) ∧ Calls Try.prog 23 #[.pointer (some ⟨t, 0, none⟩), .int .i64 (j : Int), .int .u8 (c : Int)] wr fun e w' => e = .returned (.tuple #[.int .i64 (d : Int), .bool ok]) ∧ ∃ q, w' = wr.drewN q) := by
                  have hjA : j < A.length := by have := HNE.out; omega
                  by_cases hson : txt A j ++ [c] ∈ A
                  · have h := next_in htr j hjA c hlt (by rw [← txt_at hjA]; exact hson)
                    rw [← txt_at hjA] at h
                    exact ⟨_, true, fun _ => (stepN_son j c hson).symm, h⟩
                  · have h := next_not htr j hjA c hlt (by rw [← txt_at hjA]; exact hson)
                    exact ⟨0, false, (fun e => absurd e (by decide)), h⟩
                obtain ⟨d, ok, hok, hnx⟩ := HNX.out
                have HNX2 := hid hnx
                clear hcell1 hcell2 HNX hnx htr hLr hSr
                obtain ⟨m1, hm1⟩ : ∃ m1, m1 = stepN A j c := ⟨_, rfl⟩
                obtain ⟨m2, hm2⟩ : ∃ m2, m2 = stepN A 0 c := ⟨_, rfl⟩
                rw [← hm1, ← hm2] at HC1 hmem
                rw [← hm1] at hok
                clear hm1 hm2
                by_cases he : m1 = m2
                all_goals
                  first
                  | (have hmd : decide (c ∈ S) = false := decide_eq_false (fun h => hmem.1 h he); have hbe : (((m1 : Int)) == (m2 : Int)) = true := by rw [he]; exact beq_self_eq_true _)
                  | (have hmd : decide (c ∈ S) = true := decide_eq_true (hmem.2 he); have hbe : (((m1 : Int)) == (m2 : Int)) = false := beq_false_of_ne (fun h => he (by omega)); have hbn : (((m1 : Int)) != (m2 : Int)) = true := (by rw [bne, hbe]; rfl); have hde : decide (m1 = m2) = false := decide_eq_false he)
                  rw [hmd] at HC1
                  clear hmem
                  cases ok
                  all_goals
                    first
                    | (have hdm := hok rfl; subst hdm; clear hok)
                    | clear hok
                    go_wp2_with (first
                      | (go_at_call 20; refine (trieL_in HLr.out).mono ?_; rintro e w11 ⟨rfl, rfl⟩)
                      | (go_at_call 23; refine (HNX2.out).mono ?_; rintro e w12 ⟨rfl, q12, hq12⟩; have hB12 : Below wq.heap.size wq w12 := (by rw [hq12]; exact hB.out.trans (drewN_below _ _ _)); have HB12 := hid hB12; obtain ⟨e1, e2, e3⟩ := HC1.out w12 hB12; have e4 : ∀ q, (Instr.lookup 46 (.map (some b)) (.int .u8 (c : Int)) false).run Try.prog (w12.drewN q) = _ := fun q => (HC1.out (w12.drewN q) (hB12.trans (drewN_below _ _ _))).2.2; clear hq12 hB12))
                    go_quiet (fail)
                    go_wp2
                    go_roundw
                    case rel => exact ⟨c + 1, by go_num, by omega, HB12.out.trans (drewN_below _ _ _)⟩
                    case measure => simp [intOf]; omega
              · obtain rfl : c = 256 := by omega
                have HBE := hid (below_more HBW2.out hB.out)
                by_cases hj0 : j = 0
                · have hS0 : S.length = 0 := by rw [HSE.out, hj0, sparseN_zero]; rfl
                  have hle := fun ty => HSr.out.len ty
                  rw [hS0] at hle
                  subst hj0
                  go_wp2
                  go_ret
                  exact ⟨by simp, HBE.out⟩
                · have hbj : ((j : Int) == 0) = false := beq_false_of_ne (by omega)
                  have hbj2 : ((j : Int) != 0) = true := by rw [bne, hbj]; rfl
                  go_wp2
                  go_ret
                  exact ⟨by simp, HBE.out⟩
      · go_enter Try.func4, Try.ntmps4
        have hc0 : ¬ cd = 0 := bad_code hL
        go_wp2_with (first
          | (go_at_call 6; refine (few_any H.out).mono ?_; rintro e w1 ⟨rfl, rfl⟩; rw [hd1])
          | (go_at_call 7; refine (alive_any _).mono ?_; rintro e w2 ⟨rfl, hb2⟩; have H2 := hid (H.out.below hb2))
          | (go_at_call 8; refine (phrases_bad H2.out.1 hsz.1 (fun s hs => by have := hsz.2 s hs; omega) hL).mono ?_; rintro e w3 ⟨rfl, rfl⟩))
        go_ret
        exact ⟨rfl, hb2⟩
    · have hd30 : decide ((30 : Int) < (L.length : Int)) = true := decide_eq_true (by omega)
      have hd30b : decide (30 < L.length) = true := decide_eq_true (by omega)
      go_enter Try.func4, Try.ntmps4
      go_wp2_with (first
        | (go_at_call 6; refine (few_any H.out).mono ?_; rintro e w1 ⟨rfl, rfl⟩; rw [hd1])
        | (go_at_call 7; refine (alive_any _).mono ?_; rintro e w2 ⟨rfl, hb2⟩))
      go_ret
      exact ⟨rfl, hb2⟩
  · have hd1 : fewB L = false := decide_eq_false hf
    go_enter Try.func4, Try.ntmps4
    go_wp2_with (first
      | (go_at_call 6; refine (few_any H.out).mono ?_; rintro e w1 ⟨rfl, rfl⟩; rw [hd1])
      | (go_at_call 7; refine (alive_any _).mono ?_; rintro e w2 ⟨rfl, hb2⟩))
    go_ret
    exact ⟨rfl, hb2⟩

set_option linter.unusedVariables false
theorem denseRows_own : ownKnob Try.prog.godebug = none := by kernel_rfl

theorem denseRows_laidOut : laidOutB Try.prog = true := by kernel_rfl

set_option maxRecDepth 100000 in
theorem denseRows_lifted (os : Os) (started : os.Started) (H : Type) (enc : TypeId × Value → H) :
    ReturnsInHanded {} Try.checked os 4 .any (Rows.denseRowsSpec.pre6 enc Try.prog Try.f4 Rows.denseRowsRow.domain false) (Rows.denseRowsSpec.post enc Try.prog Try.f4 false true false false) := by
  refine returnsInHanded_of_change_sized (C := Try.checked) denseRows_own started (by kernel_rfl) Try.func4
    (ChangeSpec.witness6 (enc := enc) (C := Try.checked) false ⟨#[], #[.slice none 0 0, .int .i64 0], []⟩ 8 (by kernel_rfl) (by kernel_rfl) (by kernel_rfl) (by kernel_rfl)) ?_
  intro W base args ds gs before hval0 hW hcnd hsz0 _
  have hsz : (DataW.weightsEach Try.prog (Try.f4.params.toList ++ Rows.denseRowsSpec.plain.varTypes Try.prog) (ds ++ gs)).all (· ≤ reachBytes) = true := hsz0
  have hval : ∀ (j : Nat) t v, Try.f4.params[j]? = some t → args[j]? = some v → Value.okWide Try.prog W .any base t v := hval0
  have hW' := hW
  obtain ⟨p, q, hA0, hV, rfl, hfz, hnd⟩ := hW
  have hA : DataW.TrodAll enc Try.prog W 0 (fun _ => true) true Try.f4.params.toList args.toList ds p := hA0
  rw [Try.params4] at hA hval hsz
  obtain ⟨v0, vs0, d0, ds0, p0, q0, hargs, rfl, rfl, h0, r0⟩ := trodAll_cons hA
  obtain ⟨v1, vs1, d1, ds1, p1, q1, rfl, rfl, rfl, h1, r1⟩ := trodAll_cons r0
  obtain ⟨rfl, rfl, rfl⟩ := trodAll_nil r1
  obtain rfl : args = #[v0, v1] := by cases args; simp_all
  obtain ⟨rfl, rfl⟩ := trodVars_none hV
  obtain ⟨a0, len0, cap0, rfl⟩ := okWide_slice Try.underlying22 (hval 0 22 v0 rfl rfl)
  have k0 := h0
  have lt0 : ∀ x ∈ p0, x.block < W.heap.size := by obtain ⟨m, hm⟩ := k0; exact DataW.trod_lt m _ _ _ hm
  obtain ⟨z0, w0⟩ := h0.elim (fun _ hf => open_list hf hsz 0 rfl rfl)
  obtain ⟨a1, rfl, rfl, rfl, w1⟩ := open_int Try.underlying3 (hval 1 3 v1 rfl rfl) h1
  clear hA0 hval0
  refine (rows_walk _ z0 a1 W w0).mono fun e W' ⟨he, bel⟩ => ?_
  subst he
  exact ⟨_, rfl, _, _, _, [], _, [], hW', trodAll_mk1 (shut_bool Try.underlying4 _), (trodAll_cons_mk (Below.trod denseRows_laidOut (by kernel_rfl) (of_decide_eq_true (by kernel_rfl)) k0 bel lt0) (trodAll_cons_mk (shut_int Try.underlying3 w1) trodAll_mk0)), rfl, bel.frame _, fun h => by cases h⟩

/-- THE STATEMENT. -/
theorem denseRows_holds : Rows.DenseRowsSaid :=
  OpenClaim.holds_of_wide 4 Try.f4 rfl rfl rfl rfl rfl rfl rfl ⟨rfl, rfl, rfl, rfl, rfl⟩ rfl rfl rfl rfl rfl (by kernel_rfl) Try.func4 (by kernel_rfl)
    (of_decide_eq_true (by kernel_rfl)) (by unfold Func.isWrapper; first | (rw [if_pos (by decide +kernel)]; kernel_rfl) | (rw [if_neg (by decide +kernel)]; exact ⟨rfl, rfl⟩))
    (fun os started H enc _ => denseRows_lifted os started H enc)
#print axioms denseRows_holds
end Go.Proofs.Ytcbnlhgkihhakaa
