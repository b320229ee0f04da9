/-
  DenseWalks: laid out, a way through bytes is the scanner's. For every list of texts, every bytes.
-/
import Derived.Test.YtcbnlhgkihhakaaAlive10
import Derived.Test.YtcbnlhgkihhakaaRefPhrases
import Derived.Test.YtcbnlhgkihhakaaNodeCalls
import Derived.ShutString
import Derived.ChangeOld
import Derived.SizedLaws
namespace Go.Proofs.Ytcbnlhgkihhakaa
open Go.ChangeShapes Go.WideShapes Go.ChangeAt Go.RowKit
open Go.ChangeMaps (open_string shut_string)

theorem ready_links {w : World} {l t : Nat} {L : List ByteArray} (h : LinksOf w l t L) : LinksAt w l t (nodesN (L.map nums)) (L.map nums) (wordOf (L.map nums)) := h

theorem slice_byte (b : ByteArray) (i : Nat) (h : i < b.size) (W : World) : (Instr.slice 9 (.string b) (some (.int .i64 (i : Int))) (some (.int .i64 ((i : Int) + 1))) none).run Try.prog W = .ok (.string (bytesOf [(b[i]'h).toNat])) W := by
  rw [run_slice_string (P := Try.prog) W 9 b .i64 .i64 (i : Int) ((i : Int) + 1) Try.underlying9 (by omega) (by omega) (by omega)]
  congr 2
  rw [← bytesOf_nums (b.extract _ _), nums_extract]
  congr 1
  rw [show ((i : Int)).toNat = i by omega, show ((i : Int) + 1).toNat - i = 1 by omega, drop_nums b i h]
  rfl

set_option maxRecDepth 20000 in
set_option maxHeartbeats 4000000 in
theorem walks_walk (v : Value) (L : List ByteArray) (b : ByteArray) (w : World) (h : ListIn w v L) :
    Calls Try.prog 3 #[v, .string b] w fun e w' => e = .returned (.bool true) ∧ Below w.heap.size w w' := by
  have H := hid h
  obtain ⟨⟨a, ca, rfl, ha⟩, hq2, hq3⟩ := h
  rw [strs_length] at *
  clear ha hq2 hq3
  by_cases hf : FewL L
  · have hd1 : fewB L = true := decide_eq_true hf
    have hsz := hf.sizes
    have HSZ := hid hf.2
    by_cases hcond : L.length ≤ 30 ∧ b.size ≤ 200
    · have hd30 : decide ((30 : Int) < (L.length : Int)) = false := decide_eq_false (by omega)
      have hd30b : decide (30 < L.length) = false := decide_eq_false (by omega)
      have hdc : decide ((200 : Int) < (b.size : Int)) = false := decide_eq_false (by omega)
      have hdc2 : decide (200 < b.size) = false := decide_eq_false (by omega)
      rcases fine_or_bad L with hL | ⟨cd, a0, hL⟩
      · have HF := hid hL
        have hl100 := hL.1
        clear hL hsz hf
        obtain ⟨A, hA⟩ : ∃ A, A = nodesN (L.map nums) := ⟨_, rfl⟩
        obtain ⟨P, hP⟩ : ∃ P, P = L.map nums := ⟨_, rfl⟩
        obtain ⟨n, hn⟩ : ∃ n, n = A.length := ⟨_, rfl⟩
        have hn9 : n ≤ 1000000 := by rw [hn, hA]; exact nodes_most HF.out
        have HAE := hid hA
        have HPE := hid hP
        have HNE := hid hn
        clear hA hP hn
        go_enter Try.func3, Try.ntmps3
        go_wp2_with (first
          | (go_at_call 6; refine (few_any H.out).mono ?_; rintro e w1 ⟨rfl, rfl⟩; rw [hd1])
          | (go_at_call 7; refine (alive_any _).mono ?_; rintro e w2 ⟨rfl, hb2⟩; have H2 := hid (H.out.below hb2); have HB2 := hid hb2; clear hb2)
          | (go_at_call 8; refine (phrases_fine H2.out.1 HF.out).mono ?_; rintro e w3 ⟨rfl, rfl⟩)
          | (go_at_call 9; refine (makeL_fine H2.out.1 HF.out).mono ?_; rintro e w4 ⟨l, t, rfl, hx4, hb4⟩; have hr4 := ready_of hx4 HF.out; have HR := hid hr4; have HX := hid hx4; have HL4 := hid (H2.out.1.below hb4); have HB4 := hid (below_more HB2.out hb4); clear hx4 hb4 hr4)
          | (go_at_call 10; refine (newT_in (show LinksAt w4 l t A P (wordOf P) by rw [HAE.out, HPE.out]; exact HX.out) (by rw [HAE.out]; exact HR.out.father)).mono ?_; rintro e w5 ⟨p, rfl, ht5, hp5, hb5⟩; have HB5 := hid (below_more HB4.out hb5); obtain ⟨rp, ht55⟩ := ht5.2; have HT5 : Hid (TbAt w5 p l rp n (stepN A)) := (by have h := ht55; rw [← HNE.out] at h; exact h); have HTB := hid ht5; have HR2 : Hid (Ready A P) := (by show Ready A P; rw [HAE.out, HPE.out]; exact HR.out); clear ht5 ht55 hp5 hb5)
          | (go_at_call 11; refine (newS_in HTB.out.1 HR2.out.nodes (Below.refl _ _)).mono ?_; rintro e w6 ⟨ps, rfl, hs6, hp6, hb6⟩; have HS6 := hid hs6; have HP6 := hid hp6; have HB6 := hid (below_more HB5.out hb6); clear hs6 hp6 hb6))
        have HA0 : Hid ([] ∈ A) := nodes_mem0 HR2.out.nodes
        have HBA : Hid (Below w1.heap.size w1 w6) := HB6.out
        clear HX HR H H2 HB2 HL4 HB4
        go_loopw [10, 11] (fun vm vi wr => ∃ (i m : Nat), vm = .int .i64 m ∧ vi = .int .i64 i ∧ i ≤ b.size ∧ Hid (m = A.idxOf (longT A ((nums b).take i))) ∧ Hid (ScAt w5 wr ps l t A P (wordOf P) ((nums b).take i) i)) (fun _ vi _ => b.size - (intOf vi).toNat)
        case atStart => exact ⟨0, 0, rfl, rfl, by omega, by show _ = _; rw [List.take_zero]; exact (idx_nil HR2.out.nodes).symm, HS6.out⟩
        case round =>
          obtain ⟨i, m, rfl, rfl, hi, hm, hs⟩ := hrel
          by_cases hlt : i < b.size
          · have hsl := slice_byte b i hlt
            have hix := byte_index b i hlt
            have htk := take_nums b i hlt
            obtain ⟨c, hcc⟩ : ∃ c, c = (b[i]'hlt).toNat := ⟨_, rfl⟩
            have hc : c < 256 := by rw [hcc]; exact UInt8.toNat_lt _
            rw [← hcc] at hsl hix htk
            have hjm : m < n := by rw [HNE.out, hm.out]; exact idx_lt (longT_mem A HA0.out _)
            obtain ⟨m2, hm2⟩ : ∃ m2, m2 = A.idxOf (longT A ((nums b).take (i + 1))) := ⟨_, rfl⟩
            have hst : stepN A m c = m2 := by
              unfold stepN
              rw [hm2, hm.out, longT_byte A HA0.out HR2.out.father, htk]
            have hm2n : m2 < n := by rw [← hst, HNE.out]; exact stepN_lt HR2.out.nodes m c
            have hdm : decide ((n : Int) ≤ (m2 : Int)) = false := decide_eq_false (by omega)
            have hdm2 : decide (n ≤ m2) = false := decide_eq_false (by omega)
            have hdlt : decide ((i : Int) < (b.size : Int)) = true := decide_eq_true (by omega)
            obtain ⟨tc, htc⟩ : ∃ tc, tc = bytesOf [c] := ⟨_, rfl⟩
            have htcs : tc.size = 1 := by rw [htc, bytesOf_size]; rfl
            have htcn : nums tc = [c] := by rw [htc, nums_bytesOf [c] (by intro z hz; simp at hz; omega)]
            rw [← htc] at hsl
            have HST := hid hst
            have HST2 : Hid (A.idxOf (longT A (txt A m ++ [c])) = m2) := hst
            have HM2 := hid hm2
            have HTK := hid htk
            have HTC := hid htcn
            have HTS := hid htcs
            clear hst hm2 htk htc htcn hcc
            go_wp2_with (first
              | (go_at_call 12; refine (goT_in (HT5.out.later hs.out.below) m hjm c hc).mono ?_; rintro e w7 ⟨rfl, q7, hq7⟩; have HS7 := hid (hs.out.later (drewN_below _ q7 _)); rw [← hq7] at HS7; rw [HST.out]; clear hq7)
              | (go_at_call 13; refine (feed_in HS7.out HR2.out.father HR2.out.mem HR2.out.some HR2.out.short tc (by omega) (by omega)).mono ?_; rintro e w8 ⟨v8, k8, rfl, ho8, hs8, hk8⟩; have HS8 : Hid (ScAt w5 w8 ps l t A P (wordOf P) ((nums b).take (i + 1)) (i + 1)) := (by have h := hs8; rw [HTC.out, ← HTK.out, HTS.out] at h; exact h); clear ho8 hs8 hk8)
              | (go_at_call 14; refine (step_in HS8.out.now HR2.out.father m (by have := HNE.out; omega) c hc).mono ?_; rintro e w9 ⟨rfl, q9, hq9⟩; have HS9 := hid (HS8.out.later (drewN_below _ q9 _)); rw [← hq9] at HS9; rw [HST2.out]; clear hq9)
              | (go_at_call 15; refine (nodeS_in HS9.out).mono ?_; rintro e w10 ⟨rfl, rfl⟩; rw [← HM2.out])
              | (go_at_call 16; refine (lenT_in (HT5.out.later HS9.out.below)).mono ?_; rintro e w11 ⟨rfl, rfl⟩))
            go_roundw
            case rel => exact ⟨i + 1, m2, rfl, by go_num, by omega, HM2.out, HS9.out⟩
            case measure => simp [intOf]; omega
          · obtain rfl : i = b.size := by omega
            have HBr := hid (below_more HB5.out hs.out.below)
            obtain ⟨X, hX⟩ : ∃ X, X = asHits (hitsT P 0 [] (nums b)) := ⟨_, rfl⟩
            have hXl : X.length ≤ 1000000 := by
              have := hitsT_few P 40 HR2.out.short (nums b) 0 []
              rw [hX, asHits_length]
              rw [nums_length] at this
              omega
            have HXE := hid hX
            clear hX
            go_wp2_with (first
              | (go_at_call 18; refine (allT_in (HTB.out.later hs.out.below) HR2.out.father HR2.out.mem HR2.out.some HR2.out.short b (by omega)).mono ?_; rintro e w7 ⟨v7, k7, rfl, ho7, hb7⟩; rw [← HXE.out] at ho7; have HO7 := hid (ownsRow_readsH ho7); have HS7 := hid (hs.out.later hb7); have HB7 := hid (below_more HBr.out hb7); clear ho7 hb7)
              | (go_at_call 19; refine (allS_in HTB.out.1 HS7.out.below HR2.out.father HR2.out.mem HR2.out.some HR2.out.short b (by omega)).mono ?_; rintro e w8 ⟨v8, k8, rfl, ho8, hb8⟩; rw [← HXE.out] at ho8; have HO8 := hid (ownsRow_readsH ho8); have HO78 := hid (HO7.out.below hb8); have HB8 := hid (below_more HB7.out hb8); clear ho8 hb8)
              | (go_at_call 17; refine (sameHits_any HO78.out HO8.out hXl hXl).mono ?_; rintro e w9 ⟨rfl, hb9⟩; have HB9 := hid (below_more HB8.out hb9); clear hb9; rw [decide_eq_true rfl]))
            go_ret
            exact ⟨by simp, HB9.out⟩
      · go_enter Try.func3, Try.ntmps3
        have hc0 : ¬ cd = 0 := bad_code hL
        go_wp2_with (first
          | (go_at_call 6; refine (few_any H.out).mono ?_; rintro e w1 ⟨rfl, rfl⟩; rw [hd1])
          | (go_at_call 7; refine (alive_any _).mono ?_; rintro e w2 ⟨rfl, hb2⟩; have H2 := hid (H.out.below hb2))
          | (go_at_call 8; refine (phrases_bad H2.out.1 hsz.1 (fun s hs => by have := hsz.2 s hs; omega) hL).mono ?_; rintro e w3 ⟨rfl, rfl⟩))
        go_ret
        exact ⟨rfl, hb2⟩
    · rcases (show 30 < L.length ∨ (L.length ≤ 30 ∧ 200 < b.size) by omega) with h1 | ⟨h1, h2⟩
      all_goals
        go_enter Try.func3, Try.ntmps3
        go_wp2_with (first
          | (go_at_call 6; refine (few_any H.out).mono ?_; rintro e w1 ⟨rfl, rfl⟩; rw [hd1])
          | (go_at_call 7; refine (alive_any _).mono ?_; rintro e w2 ⟨rfl, hb2⟩))
        go_ret
        exact ⟨rfl, hb2⟩
  · have hd1 : fewB L = false := decide_eq_false hf
    go_enter Try.func3, Try.ntmps3
    go_wp2_with (first
      | (go_at_call 6; refine (few_any H.out).mono ?_; rintro e w1 ⟨rfl, rfl⟩; rw [hd1])
      | (go_at_call 7; refine (alive_any _).mono ?_; rintro e w2 ⟨rfl, hb2⟩))
    go_ret
    exact ⟨rfl, hb2⟩

set_option linter.unusedVariables false
theorem denseWalks_own : ownKnob Try.prog.godebug = none := by kernel_rfl

theorem denseWalks_laidOut : laidOutB Try.prog = true := by kernel_rfl

set_option maxRecDepth 100000 in
theorem denseWalks_lifted (os : Os) (started : os.Started) (H : Type) (enc : TypeId × Value → H) :
    ReturnsInHanded {} Try.checked os 3 .any (Rows.denseWalksSpec.pre6 enc Try.prog Try.f3 Rows.denseWalksRow.domain false) (Rows.denseWalksSpec.post enc Try.prog Try.f3 false true false false) := by
  refine returnsInHanded_of_change_sized (C := Try.checked) denseWalks_own started (by kernel_rfl) Try.func3
    (ChangeSpec.witness6 (enc := enc) (C := Try.checked) false ⟨#[], #[.slice none 0 0, .string ByteArray.empty], []⟩ 8 (by kernel_rfl) (by kernel_rfl) (by kernel_rfl) (by kernel_rfl)) ?_
  intro W base args ds gs before hval0 hW hcnd hsz0 _
  have hsz : (DataW.weightsEach Try.prog (Try.f3.params.toList ++ Rows.denseWalksSpec.plain.varTypes Try.prog) (ds ++ gs)).all (· ≤ reachBytes) = true := hsz0
  have hval : ∀ (j : Nat) t v, Try.f3.params[j]? = some t → args[j]? = some v → Value.okWide Try.prog W .any base t v := hval0
  have hW' := hW
  obtain ⟨p, q, hA0, hV, rfl, hfz, hnd⟩ := hW
  have hA : DataW.TrodAll enc Try.prog W 0 (fun _ => true) true Try.f3.params.toList args.toList ds p := hA0
  rw [Try.params3] at hA hval hsz
  obtain ⟨v0, vs0, d0, ds0, p0, q0, hargs, rfl, rfl, h0, r0⟩ := trodAll_cons hA
  obtain ⟨v1, vs1, d1, ds1, p1, q1, rfl, rfl, rfl, h1, r1⟩ := trodAll_cons r0
  obtain ⟨rfl, rfl, rfl⟩ := trodAll_nil r1
  obtain rfl : args = #[v0, v1] := by cases args; simp_all
  obtain ⟨rfl, rfl⟩ := trodVars_none hV
  obtain ⟨a0, len0, cap0, rfl⟩ := okWide_slice Try.underlying22 (hval 0 22 v0 rfl rfl)
  have k0 := h0
  have lt0 : ∀ x ∈ p0, x.block < W.heap.size := by obtain ⟨m, hm⟩ := k0; exact DataW.trod_lt m _ _ _ hm
  obtain ⟨z0, w0⟩ := h0.elim (fun _ hf => open_list hf hsz 0 rfl rfl)
  obtain ⟨a1, rfl, rfl, rfl, w1⟩ := open_string Try.underlying9 (hval 1 9 v1 rfl rfl) h1
  clear hA0 hval0
  have s1 : a1.size ≤ 140737488351232 := by have h := sized_string hsz (j := 1) (t := 9) rfl rfl; rw [Array.length_toList] at h; exact h
  refine (walks_walk _ z0 a1 W w0).mono fun e W' ⟨he, bel⟩ => ?_
  subst he
  exact ⟨_, rfl, _, _, _, [], _, [], hW', trodAll_mk1 (shut_bool Try.underlying4 _), (trodAll_cons_mk (Below.trod denseWalks_laidOut (by kernel_rfl) (of_decide_eq_true (by kernel_rfl)) k0 bel lt0) (trodAll_cons_mk (shut_string Try.underlying9 w1) trodAll_mk0)), rfl, bel.frame _, fun h => by cases h⟩

/-- THE STATEMENT. -/
theorem denseWalks_holds : Rows.DenseWalksSaid :=
  OpenClaim.holds_of_wide 3 Try.f3 rfl rfl rfl rfl rfl rfl rfl ⟨rfl, rfl, rfl, rfl, rfl⟩ rfl rfl rfl rfl rfl (by kernel_rfl) Try.func3 (by kernel_rfl)
    (of_decide_eq_true (by kernel_rfl)) (by unfold Func.isWrapper; first | (rw [if_pos (by decide +kernel)]; kernel_rfl) | (rw [if_neg (by decide +kernel)]; exact ⟨rfl, rfl⟩))
    (fun os started H enc _ => denseWalks_lifted os started H enc)
#print axioms denseWalks_holds
end Go.Proofs.Ytcbnlhgkihhakaa
