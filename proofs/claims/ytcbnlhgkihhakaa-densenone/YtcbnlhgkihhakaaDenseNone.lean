/-
  DenseNone: of nodes that are none, nothing is told; of the others all 256 steps. For every list of texts, every node, every byte.
-/
import Derived.Test.YtcbnlhgkihhakaaAlive10
import Derived.Test.YtcbnlhgkihhakaaDenseSparse
import Derived.Test.YtcbnlhgkihhakaaRefPhrases
import Derived.Test.YtcbnlhgkihhakaaNodeCalls
import Derived.ChangeOld
import Derived.SizedLaws
namespace Go.Proofs.Ytcbnlhgkihhakaa
open Go.ChangeShapes Go.WideShapes Go.ChangeAt Go.RowKit

theorem byte_of {n : Int} (h : (Lit.int .u8 n).wf = true) : 0 ≤ n ∧ n < 256 := by
  simp only [Lit.wf, Bool.and_eq_true, IntKind.min, IntKind.max, IntKind.signed, IntKind.bits] at h
  simp at h
  omega

theorem ready_links {w : World} {l t : Nat} {L : List ByteArray} (h : LinksOf w l t L) : LinksAt w l t (nodesN (L.map nums)) (L.map nums) (wordOf (L.map nums)) := h

set_option maxRecDepth 20000 in
set_option maxHeartbeats 4000000 in
theorem none_walk (v : Value) (L : List ByteArray) (a1 a2 : Int) (hc : 0 ≤ a2 ∧ a2 < 256) (w : World) (h : ListIn w v L) :
    Calls Try.prog 5 #[v, .int .i64 a1, .int .u8 a2] w fun e w' => e = .returned (.bool true) ∧ Below w.heap.size w w' := by
  have H := hid h
  obtain ⟨⟨a, ca, rfl, ha⟩, hq2, hq3⟩ := h
  rw [strs_length] at *
  clear ha hq2 hq3
  by_cases hf : FewL L
  · have hd1 : fewB L = true := decide_eq_true hf
    have hsz := hf.sizes
    have HSZ := hid hf.2
    by_cases hcond : L.length ≤ 30
    · have hd30 : decide ((30 : Int) < (L.length : Int)) = false := decide_eq_false (by omega)
      have hd30b : decide (30 < L.length) = false := decide_eq_false (by omega)
      rcases fine_or_bad L with hL | ⟨cd, a0, hL⟩
      · have HF := hid hL
        have hl100 := hL.1
        clear hL hsz hf
        obtain ⟨c, rfl⟩ : ∃ c : Nat, a2 = (c : Int) := ⟨a2.toNat, by omega⟩
        have hc256 : c < 256 := by omega
        obtain ⟨A, hA⟩ : ∃ A, A = nodesN (L.map nums) := ⟨_, rfl⟩
        have HAE := hid hA
        rcases (show (∃ j : Nat, a1 = (j : Int) ∧ j < (nodesN (L.map nums)).length) ∨ (a1 < 0 ∨ ((nodesN (L.map nums)).length : Int) ≤ a1) by
            by_cases h1 : a1 < 0
            · exact .inr (.inl h1)
            · by_cases h2 : ((nodesN (L.map nums)).length : Int) ≤ a1
              · exact .inr (.inr h2)
              · exact .inl ⟨a1.toNat, by omega, by omega⟩) with ⟨j, rfl, hj⟩ | hj
        all_goals clear hA HAE
        · have hn9 := nodes_most HF.out
          obtain ⟨n, hn⟩ : ∃ n, n = (nodesN (L.map nums)).length := ⟨_, rfl⟩
          have HNE := hid hn
          rw [← hn] at hj hn9
          have HN9 : Hid (n ≤ 1000000) := hn9
          have HN0 : Hid (0 < n) := by show 0 < n; omega
          have hd1' : decide ((j : Int) < (n : Int)) = true := decide_eq_true (by omega)
          have HJ := hid hj
          obtain ⟨m, hm⟩ : ∃ m, m = stepN (nodesN (L.map nums)) j c := ⟨_, rfl⟩
          have hmn : m < n := by rw [hm, hn]; exact stepN_lt (nodes_all _) j c
          have hdm : decide ((m : Int) < (n : Int)) = true := decide_eq_true (by omega)
          have HM := hid hm
          clear hn hm
          go_enter Try.func5, Try.ntmps5
          go_wp2_with (first
            | (go_at_call 6; refine (few_any H.out).mono ?_; rintro e w1 ⟨rfl, rfl⟩; rw [hd1])
            | (go_at_call 7; refine (alive_any _).mono ?_; rintro e w2 ⟨rfl, hb2⟩; have H2 := hid (H.out.below hb2); have HB2 := hid hb2; clear hb2)
            | (go_at_call 8; refine (phrases_fine H2.out.1 HF.out).mono ?_; rintro e w3 ⟨rfl, rfl⟩)
            | (go_at_call 9; refine (makeL_fine H2.out.1 HF.out).mono ?_; rintro e w4 ⟨l, t, rfl, hx4, hb4⟩; have hr4 := ready_of hx4 HF.out; have HR := hid hr4; have HX := hid hx4; have HL4 := hid (H2.out.1.below hb4); have HB4 := hid (below_more HB2.out hb4); clear hx4 hb4 hr4)
            | (go_at_call 10; refine (newT_in (ready_links HX.out) HR.out.father).mono ?_; rintro e w5 ⟨p, rfl, ⟨hl5, rp, ht5⟩, hp5, hb5⟩; have HT5 : Hid (TbAt w5 p l rp n (stepN (nodesN (L.map nums)))) := (by have h := ht5; rw [← HNE.out] at h; exact h); have HB5 := hid (below_more HB4.out hb5); clear hl5 ht5 hp5 hb5)
            | (go_at_call 24; refine (sizeT_in HT5.out HN9.out).mono ?_; rintro e w51 ⟨rfl, rfl⟩)
            | (have _h := HT8; go_at_call 21; refine (rowT_in HT8.out j HJ.out).mono ?_; rintro e w9 ⟨v9, rfl, ho9, hb9⟩; obtain ⟨a9, c9, rfl⟩ := ownsRow_slice ho9; have HB9 := hid (below_more HB8.out hb9); clear ho9 hb9)
            | (have _h := HT8; go_at_call 16; refine (lenT_in HT8.out).mono ?_; rintro e w81 ⟨rfl, rfl⟩)
            | (have _h := HT7; go_at_call 12; refine (goT_in HT7.out j HJ.out c hc256).mono ?_; rintro e w8 ⟨rfl, q8, hq8⟩; rw [← HM.out]; have HT8 := hid (HT7.out.drewN q8); have HB8 := hid (below_more HB7.out (drewN_below _ q8 _)); rw [← hq8] at HT8 HB8; clear hq8)
            | (have _h := HT6; go_at_call 12; refine (goT_in HT6.out j HJ.out c hc256).mono ?_; rintro e w7 ⟨rfl, q7, hq7⟩; rw [← HM.out]; have HT7 := hid (HT6.out.drewN q7); have HB7 := hid (below_more HB6.out (drewN_below _ q7 _)); rw [← hq7] at HT7 HB7; clear hq7)
            | (have _h := HT6; go_at_call 16; refine (lenT_in HT6.out).mono ?_; rintro e w61 ⟨rfl, rfl⟩)
            | (go_at_call 16; refine (lenT_in HT5.out).mono ?_; rintro e w52 ⟨rfl, rfl⟩)
            | (go_at_call 22; refine (sparseT_root HT5.out HN0.out).mono ?_; rintro e w6 ⟨a6, c6, rfl, hb6⟩; have HT6 := hid (HT5.out.later hb6); have HB6 := hid (below_more HB5.out hb6); clear hb6))
          go_ret
          exact ⟨by simp, HB9.out⟩
        · have hn9 := nodes_most HF.out
          have hn0 := nodes_some L
          obtain ⟨n, hn⟩ : ∃ n, n = (nodesN (L.map nums)).length := ⟨_, rfl⟩
          have HNE := hid hn
          rw [← hn] at hj hn9 hn0
          have HN9 : Hid (n ≤ 1000000) := hn9
          have HN0 : Hid (0 < n) := hn0
          have HJ := hid hj
          clear hn hj
          rcases HJ.out with h0 | h0
          · go_enter Try.func5, Try.ntmps5
            go_wp2_with (first
              | (go_at_call 6; refine (few_any H.out).mono ?_; rintro e w1 ⟨rfl, rfl⟩; rw [hd1])
              | (go_at_call 7; refine (alive_any _).mono ?_; rintro e w2 ⟨rfl, hb2⟩; have H2 := hid (H.out.below hb2); have HB2 := hid hb2; clear hb2)
              | (go_at_call 8; refine (phrases_fine H2.out.1 HF.out).mono ?_; rintro e w3 ⟨rfl, rfl⟩)
              | (go_at_call 9; refine (makeL_fine H2.out.1 HF.out).mono ?_; rintro e w4 ⟨l, t, rfl, hx4, hb4⟩; have hr4 := ready_of hx4 HF.out; have HR := hid hr4; have HX := hid hx4; have HL4 := hid (H2.out.1.below hb4); have HB4 := hid (below_more HB2.out hb4); clear hx4 hb4 hr4)
              | (go_at_call 10; refine (newT_in (ready_links HX.out) HR.out.father).mono ?_; rintro e w5 ⟨p, rfl, ⟨hl5, rp, ht5⟩, hp5, hb5⟩; have HT5 : Hid (TbAt w5 p l rp n (stepN (nodesN (L.map nums)))) := (by have h := ht5; rw [← HNE.out] at h; exact h); have HB5 := hid (below_more HB4.out hb5); clear hl5 ht5 hp5 hb5)
              | (go_at_call 24; refine (sizeT_in HT5.out HN9.out).mono ?_; rintro e w51 ⟨rfl, rfl⟩)
              | (have _h := HT8; go_at_call 22; refine (sparseT_out HT8.out a1 HJ.out).mono ?_; rintro e w9 ⟨rfl, q9, hq9⟩; have HB9 := hid (below_more HB8.out (drewN_below _ q9 _)); rw [← hq9] at HB9; clear hq9)
              | (have _h := HT7; go_at_call 21; refine (rowT_out HT7.out a1 HJ.out).mono ?_; rintro e w8 ⟨rfl, q8, hq8⟩; have HT8 := hid (HT7.out.drewN q8); have HB8 := hid (below_more HB7.out (drewN_below _ q8 _)); rw [← hq8] at HT8 HB8; clear hq8)
              | (have _h := HT6; go_at_call 12; refine (goT_out HT6.out a1 HJ.out c).mono ?_; rintro e w7 ⟨rfl, q7, hq7⟩; have HT7 := hid (HT6.out.drewN q7); have HB7 := hid (below_more HB6.out (drewN_below _ q7 _)); rw [← hq7] at HT7 HB7; clear hq7)
              | (have _h := HT6; go_at_call 16; refine (lenT_in HT6.out).mono ?_; rintro e w61 ⟨rfl, rfl⟩)
              | (go_at_call 16; refine (lenT_in HT5.out).mono ?_; rintro e w52 ⟨rfl, rfl⟩)
              | (go_at_call 22; refine (sparseT_root HT5.out HN0.out).mono ?_; rintro e w6 ⟨a6, c6, rfl, hb6⟩; have HT6 := hid (HT5.out.later hb6); have HB6 := hid (below_more HB5.out hb6); clear hb6))
            go_ret
            exact ⟨by simp, HB9.out⟩
          · have hd0 : decide (a1 < 0) = false := decide_eq_false (by omega)
            have hd0' : decide ((0 : Int) ≤ a1) = true := decide_eq_true (by omega)
            have hd1' : decide (a1 < (n : Int)) = false := decide_eq_false (by omega)
            go_enter Try.func5, Try.ntmps5
            go_wp2_with (first
              | (go_at_call 6; refine (few_any H.out).mono ?_; rintro e w1 ⟨rfl, rfl⟩; rw [hd1])
              | (go_at_call 7; refine (alive_any _).mono ?_; rintro e w2 ⟨rfl, hb2⟩; have H2 := hid (H.out.below hb2); have HB2 := hid hb2; clear hb2)
              | (go_at_call 8; refine (phrases_fine H2.out.1 HF.out).mono ?_; rintro e w3 ⟨rfl, rfl⟩)
              | (go_at_call 9; refine (makeL_fine H2.out.1 HF.out).mono ?_; rintro e w4 ⟨l, t, rfl, hx4, hb4⟩; have hr4 := ready_of hx4 HF.out; have HR := hid hr4; have HX := hid hx4; have HL4 := hid (H2.out.1.below hb4); have HB4 := hid (below_more HB2.out hb4); clear hx4 hb4 hr4)
              | (go_at_call 10; refine (newT_in (ready_links HX.out) HR.out.father).mono ?_; rintro e w5 ⟨p, rfl, ⟨hl5, rp, ht5⟩, hp5, hb5⟩; have HT5 : Hid (TbAt w5 p l rp n (stepN (nodesN (L.map nums)))) := (by have h := ht5; rw [← HNE.out] at h; exact h); have HB5 := hid (below_more HB4.out hb5); clear hl5 ht5 hp5 hb5)
              | (go_at_call 24; refine (sizeT_in HT5.out HN9.out).mono ?_; rintro e w51 ⟨rfl, rfl⟩)
              | (have _h := HT8; go_at_call 22; refine (sparseT_out HT8.out a1 HJ.out).mono ?_; rintro e w9 ⟨rfl, q9, hq9⟩; have HB9 := hid (below_more HB8.out (drewN_below _ q9 _)); rw [← hq9] at HB9; clear hq9)
              | (have _h := HT7; go_at_call 21; refine (rowT_out HT7.out a1 HJ.out).mono ?_; rintro e w8 ⟨rfl, q8, hq8⟩; have HT8 := hid (HT7.out.drewN q8); have HB8 := hid (below_more HB7.out (drewN_below _ q8 _)); rw [← hq8] at HT8 HB8; clear hq8)
              | (have _h := HT6; go_at_call 12; refine (goT_out HT6.out a1 HJ.out c).mono ?_; rintro e w7 ⟨rfl, q7, hq7⟩; have HT7 := hid (HT6.out.drewN q7); have HB7 := hid (below_more HB6.out (drewN_below _ q7 _)); rw [← hq7] at HT7 HB7; clear hq7)
              | (have _h := HT6; go_at_call 16; refine (lenT_in HT6.out).mono ?_; rintro e w61 ⟨rfl, rfl⟩)
              | (go_at_call 16; refine (lenT_in HT5.out).mono ?_; rintro e w52 ⟨rfl, rfl⟩)
              | (go_at_call 22; refine (sparseT_root HT5.out HN0.out).mono ?_; rintro e w6 ⟨a6, c6, rfl, hb6⟩; have HT6 := hid (HT5.out.later hb6); have HB6 := hid (below_more HB5.out hb6); clear hb6))
            go_ret
            exact ⟨by simp, HB9.out⟩
      · go_enter Try.func5, Try.ntmps5
        have hc0 : ¬ cd = 0 := bad_code hL
        go_wp2_with (first
          | (go_at_call 6; refine (few_any H.out).mono ?_; rintro e w1 ⟨rfl, rfl⟩; rw [hd1])
          | (go_at_call 7; refine (alive_any _).mono ?_; rintro e w2 ⟨rfl, hb2⟩; have H2 := hid (H.out.below hb2))
          | (go_at_call 8; refine (phrases_bad H2.out.1 hsz.1 (fun s hs => by have := hsz.2 s hs; omega) hL).mono ?_; rintro e w3 ⟨rfl, rfl⟩))
        go_ret
        exact ⟨rfl, hb2⟩
    · have hd30 : decide ((30 : Int) < (L.length : Int)) = true := decide_eq_true (by omega)
      have hd30b : decide (30 < L.length) = true := decide_eq_true (by omega)
      go_enter Try.func5, Try.ntmps5
      go_wp2_with (first
        | (go_at_call 6; refine (few_any H.out).mono ?_; rintro e w1 ⟨rfl, rfl⟩; rw [hd1])
        | (go_at_call 7; refine (alive_any _).mono ?_; rintro e w2 ⟨rfl, hb2⟩))
      go_ret
      exact ⟨rfl, hb2⟩
  · have hd1 : fewB L = false := decide_eq_false hf
    go_enter Try.func5, Try.ntmps5
    go_wp2_with (first
      | (go_at_call 6; refine (few_any H.out).mono ?_; rintro e w1 ⟨rfl, rfl⟩; rw [hd1])
      | (go_at_call 7; refine (alive_any _).mono ?_; rintro e w2 ⟨rfl, hb2⟩))
    go_ret
    exact ⟨rfl, hb2⟩

set_option linter.unusedVariables false
theorem denseNone_own : ownKnob Try.prog.godebug = none := by kernel_rfl

theorem denseNone_laidOut : laidOutB Try.prog = true := by kernel_rfl

set_option maxRecDepth 100000 in
theorem denseNone_lifted (os : Os) (started : os.Started) (H : Type) (enc : TypeId × Value → H) :
    ReturnsInHanded {} Try.checked os 5 .any (Rows.denseNoneSpec.pre6 enc Try.prog Try.f5 Rows.denseNoneRow.domain false) (Rows.denseNoneSpec.post enc Try.prog Try.f5 false true false false) := by
  refine returnsInHanded_of_change_sized (C := Try.checked) denseNone_own started (by kernel_rfl) Try.func5
    (ChangeSpec.witness6 (enc := enc) (C := Try.checked) false ⟨#[], #[.slice none 0 0, .int .i64 0, .int .u8 0], []⟩ 8 (by kernel_rfl) (by kernel_rfl) (by kernel_rfl) (by kernel_rfl)) ?_
  intro W base args ds gs before hval0 hW hcnd hsz0 _
  have hsz : (DataW.weightsEach Try.prog (Try.f5.params.toList ++ Rows.denseNoneSpec.plain.varTypes Try.prog) (ds ++ gs)).all (· ≤ reachBytes) = true := hsz0
  have hval : ∀ (j : Nat) t v, Try.f5.params[j]? = some t → args[j]? = some v → Value.okWide Try.prog W .any base t v := hval0
  have hW' := hW
  obtain ⟨p, q, hA0, hV, rfl, hfz, hnd⟩ := hW
  have hA : DataW.TrodAll enc Try.prog W 0 (fun _ => true) true Try.f5.params.toList args.toList ds p := hA0
  rw [Try.params5] at hA hval hsz
  obtain ⟨v0, vs0, d0, ds0, p0, q0, hargs, rfl, rfl, h0, r0⟩ := trodAll_cons hA
  obtain ⟨v1, vs1, d1, ds1, p1, q1, rfl, rfl, rfl, h1, r1⟩ := trodAll_cons r0
  obtain ⟨v2, vs2, d2, ds2, p2, q2, rfl, rfl, rfl, h2, r2⟩ := trodAll_cons r1
  obtain ⟨rfl, rfl, rfl⟩ := trodAll_nil r2
  obtain rfl : args = #[v0, v1, v2] := by cases args; simp_all
  obtain ⟨rfl, rfl⟩ := trodVars_none hV
  obtain ⟨a0, len0, cap0, rfl⟩ := okWide_slice Try.underlying22 (hval 0 22 v0 rfl rfl)
  have k0 := h0
  have lt0 : ∀ x ∈ p0, x.block < W.heap.size := by obtain ⟨m, hm⟩ := k0; exact DataW.trod_lt m _ _ _ hm
  obtain ⟨z0, w0⟩ := h0.elim (fun _ hf => open_list hf hsz 0 rfl rfl)
  obtain ⟨a1, rfl, rfl, rfl, w1⟩ := open_int Try.underlying3 (hval 1 3 v1 rfl rfl) h1
  obtain ⟨a2, rfl, rfl, rfl, w2⟩ := open_int Try.underlying5 (hval 2 5 v2 rfl rfl) h2
  clear hA0 hval0
  refine (none_walk _ z0 a1 a2 (byte_of w2) W w0).mono fun e W' ⟨he, bel⟩ => ?_
  subst he
  exact ⟨_, rfl, _, _, _, [], _, [], hW', trodAll_mk1 (shut_bool Try.underlying4 _), (trodAll_cons_mk (Below.trod denseNone_laidOut (by kernel_rfl) (of_decide_eq_true (by kernel_rfl)) k0 bel lt0) (trodAll_cons_mk (shut_int Try.underlying3 w1) (trodAll_cons_mk (shut_int Try.underlying5 w2) trodAll_mk0))), rfl, bel.frame _, fun h => by cases h⟩

/-- THE STATEMENT. -/
theorem denseNone_holds : Rows.DenseNoneSaid :=
  OpenClaim.holds_of_wide 5 Try.f5 rfl rfl rfl rfl rfl rfl rfl ⟨rfl, rfl, rfl, rfl, rfl⟩ rfl rfl rfl rfl rfl (by kernel_rfl) Try.func5 (by kernel_rfl)
    (of_decide_eq_true (by kernel_rfl)) (by unfold Func.isWrapper; first | (rw [if_pos (by decide +kernel)]; kernel_rfl) | (rw [if_neg (by decide +kernel)]; exact ⟨rfl, rfl⟩))
    (fun os started H enc _ => denseNone_lifted os started H enc)
#print axioms denseNone_holds
end Go.Proofs.Ytcbnlhgkihhakaa
