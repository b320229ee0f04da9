/-
  FlexSteps: the tokens are the next ones, one behind the other. For every list of texts, every bytes.
  No condition: whatever the input, in whatever memory; the arguments read as before.
-/
import Derived.Test.YthgpacpahljabaaAlive14
import Derived.BigQuiet
import Derived.ShutString
import Derived.ChangeOld
import Derived.SizedLaws
namespace Go.Proofs.Ythgpacpahljabaa
open Go.ChangeShapes Go.WideShapes Go.ChangeAt Go.RowKit
open Go.ChangeMaps (open_string shut_string)

set_option maxRecDepth 20000 in
set_option maxHeartbeats 8000000 in
theorem steps_walk (v : Value) (L : List ByteArray) (b : ByteArray) (w : World) (h : ListIn w v L) :
    Calls Try.prog 6 #[v, .string b] w fun e w' => e = .returned (.bool true) ∧ Below w.heap.size w w' := by
  have H := hid h
  clear h
  by_cases hfits : Fits L (b)
  · obtain ⟨_, h400, hF⟩ := id hfits
    have HF := hid hF
    have hl100 := hF.1
    have HFits := hid hfits
    clear hF hfits
    obtain ⟨ts, hts⟩ : ∃ ts, ts = xA L (nums b) := ⟨_, rfl⟩
    obtain ⟨q, hq⟩ : ∃ q, q = ts.length := ⟨_, rfl⟩
    have hq1 : q ≤ b.size := by rw [hq, hts]; exact xA_few HF.out b
    have HX := hid hts
    have HQ := hid hq
    have hbb : ((b.size : Int) == (b.size : Int)) = true := by simp
    clear hts hq
    go_enter Try.func6, Try.ntmps6
    go_wp2_with (first
      | (go_at_call 8; refine (dict_fits H.out HFits.out).mono ?_; rintro e w1 ⟨p, rfl, hd1, hb1⟩; have HD1 := hid hd1; have H1 := hid (H.out.below hb1); have HB1 := hid hb1; clear hd1 hb1)
      | (go_at_call 9; refine (alive_14 _).mono ?_; rintro e w2 ⟨rfl, hb2⟩; have H2 := hid (H1.out.below hb2); have HD2 := hid (HD1.out.below hb2); have HB2 := hid (HB1.out.trans (hb2.mono HB1.out.size)); clear hb2)
      | (go_at_call 10; refine (parseX_any HD2.out HF.out b (by omega)).mono ?_; rintro e w3 ⟨v3, rfl, ho3, hb3⟩; rw [← HX.out, ← HQ.out] at ho3; obtain ⟨a3, c3, rfl⟩ := ownsRow_slice ho3; have HO3 := hid ho3; have HD3 := hid (HD2.out.below hb3); have H3 := hid (H2.out.below hb3); have HB3 := hid (HB2.out.trans (hb3.mono HB2.out.size)); clear ho3 hb3))
    go_loopw [7, 31] (fun va vi wr => ∃ i a : Nat, va = .int .i64 a ∧ vi = .int .i64 i ∧ i ≤ q ∧ a ≤ b.size ∧ Hid (ts.drop i = xA L ((nums b).drop a)) ∧ Hid (Below w3.heap.size w3 wr)) (fun _ vi _ => q - (intOf vi).toNat)
    case atStart => exact ⟨0, 0, rfl, rfl, by omega, by omega, by show _ = _; rw [List.drop_zero, List.drop_zero]; exact HX.out, Below.refl _ _⟩
    case round =>
      obtain ⟨i, a, rfl, rfl, hi, ha, hdr, hbr⟩ := hrel
      by_cases hin : i < q
      · have hdi : decide ((i : Int) < (q : Int)) = true := decide_eq_true (by omega)
        have hiL : i < ts.length := by rw [← HQ.out]; exact hin
        obtain ⟨g3, c3, e3, _, _⟩ := HO3.out.form (by omega)
        simp only [Value.slice.injEq] at e3
        obtain ⟨rfl, _, rfl⟩ := e3
        have hx' : (decide ((0 : Int) ≤ (i : Int) ∧ (i : Int) < (q : Int))) = true := decide_eq_true ⟨by omega, by omega⟩
        have hcb0 := HO3.out.cellAt i (by omega)
        rw [ints_get ts i hiL] at hcb0
        have hcb := keeps hbr.out _ _ hcb0
        obtain ⟨h1, h2, h3⟩ := dropX_next HF.out hdr.out hiL (by rw [nums_length]; exact ha)
        rw [nums_length] at h1
        have hN := hid (nextX_any (HD3.out.below hbr.out) HF.out b (by omega) a h1)
        have hp := xN_pos HF.out (drop_some h1)
        rw [List.length_drop, nums_length] at hp
        obtain ⟨t, ht⟩ : ∃ t, t = ts[i]'hiL := ⟨_, rfl⟩
        obtain ⟨n, hn⟩ : ∃ n, n = xN L ((nums b).drop a) := ⟨_, rfl⟩
        rw [← hn] at h3 hN hp
        rw [← h2, ← ht] at hN
        rw [← ht] at hcb
        obtain ⟨j, hj⟩ : ∃ j, j = a + n := ⟨_, rfl⟩
        have hjb : j ≤ b.size := by omega
        have HDN : Hid (ts.drop (i + 1) = xA L ((nums b).drop j)) := by rw [hj]; exact h3
        have hsum : (a : Int) + (n : Int) = (j : Int) := by omega
        have hdj : decide ((b.size : Int) < (j : Int)) = false := decide_eq_false (by omega)
        have hdj2 : decide (b.size < j) = false := decide_eq_false (by omega)
        have htt : ((t : Int) != (t : Int)) = false := by simp
        have hp1 := hp.1
        have hn1 : decide ((n : Int) < 1) = false := decide_eq_false (by omega)
        have hn2 : decide (n < 1) = false := decide_eq_false (by omega)
        have htl : t ≤ 100000 := by
          have := xT_is (L := L) b a
          rw [← h2, ← ht] at this
          unfold isT at this
          rw [List.length_map] at this
          omega
        clear h3 h2 ht hn hcb0 hdr hj hiL hp
        go_wp2_with (go_at_call 12; refine (hN.out).mono ?_; rintro e w4 ⟨rfl, q4, hq4⟩; have HB4 := hid (show Below w3.heap.size w3 w4 from by rw [hq4]; exact hbr.out.trans (drewN_below _ _ _)); clear hq4)
        go_roundw
        case rel => exact ⟨i + 1, j, by go_num, by go_num, by omega, by omega, HDN.out, HB4.out⟩
        case measure => simp [intOf]; omega
      · obtain rfl : i = q := by omega
        have hdi : decide ((i : Int) < (i : Int)) = false := decide_eq_false (by omega)
        have he := dropX_end HF.out hdr.out (by rw [← HQ.out]; exact Nat.le_refl _) (by rw [nums_length]; exact ha)
        rw [nums_length] at he
        subst he
        have HBr := hid (HB3.out.trans (hbr.out.mono HB3.out.size))
        go_wp2
        go_ret
        exact ⟨by simp, HBr.out⟩
  · have HFits := hid hfits
    clear hfits
    go_enter Try.func6, Try.ntmps6
    go_wp2_with (first
      | (go_at_call 8; refine (dict_no H.out HFits.out).mono ?_; rintro e w1 ⟨rfl, rfl⟩)
      | (go_at_call 9; refine (alive_14 _).mono ?_; rintro e w2 ⟨rfl, hb2⟩))
    go_ret
    exact ⟨rfl, hb2⟩

set_option linter.unusedVariables false
theorem flexSteps_own : ownKnob Try.prog.godebug = none := by kernel_rfl

theorem flexSteps_laidOut : laidOutB Try.prog = true := by kernel_rfl

set_option maxRecDepth 100000 in
theorem flexSteps_lifted (os : Os) (started : os.Started) (H : Type) (enc : TypeId × Value → H) :
    ReturnsInHanded {} Try.checked os 6 .any (Rows.flexStepsSpec.pre6 enc Try.prog Try.f6 Rows.flexStepsRow.domain false) (Rows.flexStepsSpec.post enc Try.prog Try.f6 false true false false) := by
  refine returnsInHanded_of_change_sized (C := Try.checked) flexSteps_own started (by kernel_rfl) Try.func6
    (ChangeSpec.witness6 (enc := enc) (C := Try.checked) false ⟨#[], #[.slice none 0 0, .string ByteArray.empty], []⟩ 8 (by kernel_rfl) (by kernel_rfl) (by kernel_rfl) (by kernel_rfl)) ?_
  intro W base args ds gs before hval0 hW hcnd hsz0 _
  have hsz : (DataW.weightsEach Try.prog (Try.f6.params.toList ++ Rows.flexStepsSpec.plain.varTypes Try.prog) (ds ++ gs)).all (· ≤ reachBytes) = true := hsz0
  have hval : ∀ (j : Nat) t v, Try.f6.params[j]? = some t → args[j]? = some v → Value.okWide Try.prog W .any base t v := hval0
  have hW' := hW
  obtain ⟨p, q, hA0, hV, rfl, hfz, hnd⟩ := hW
  have hA : DataW.TrodAll enc Try.prog W 0 (fun _ => true) true Try.f6.params.toList args.toList ds p := hA0
  rw [Try.params6] at hA hval hsz
  obtain ⟨v0, vs0, d0, ds0, p0, q0, hargs, rfl, rfl, h0, r0⟩ := trodAll_cons hA
  obtain ⟨v1, vs1, d1, ds1, p1, q1, rfl, rfl, rfl, h1, r1⟩ := trodAll_cons r0
  obtain ⟨rfl, rfl, rfl⟩ := trodAll_nil r1
  obtain rfl : args = #[v0, v1] := by cases args; simp_all
  obtain ⟨rfl, rfl⟩ := trodVars_none hV
  obtain ⟨a0, len0, cap0, rfl⟩ := okWide_slice Try.underlying22 (hval 0 22 v0 rfl rfl)
  have k0 := h0
  have lt0 : ∀ x ∈ p0, x.block < W.heap.size := by obtain ⟨m, hm⟩ := k0; exact DataW.trod_lt m _ _ _ hm
  obtain ⟨z0, w0⟩ := h0.elim (fun _ hf => open_list hf hsz 0 rfl rfl)
  obtain ⟨a1, rfl, rfl, rfl, w1⟩ := open_string Try.underlying9 (hval 1 9 v1 rfl rfl) h1
  clear hA0 hval0
  have s1 : a1.size ≤ 140737488351232 := by have h := sized_string hsz (j := 1) (t := 9) rfl rfl; rw [Array.length_toList] at h; exact h
  refine (steps_walk _ z0 a1 W w0).mono fun e W' ⟨he, bel⟩ => ?_
  subst he
  exact ⟨_, rfl, _, _, _, [], _, [], hW', trodAll_mk1 (shut_bool Try.underlying4 _), (trodAll_cons_mk (Below.trod flexSteps_laidOut (by kernel_rfl) (of_decide_eq_true (by kernel_rfl)) k0 bel lt0) (trodAll_cons_mk (shut_string Try.underlying9 w1) trodAll_mk0)), rfl, bel.frame _, fun h => by cases h⟩

/-- THE STATEMENT. -/
theorem flexSteps_holds : Rows.FlexStepsSaid :=
  OpenClaim.holds_of_wide 6 Try.f6 rfl rfl rfl rfl rfl rfl rfl ⟨rfl, rfl, rfl, rfl, rfl⟩ rfl rfl rfl rfl rfl (by kernel_rfl) Try.func6 (by kernel_rfl)
    (of_decide_eq_true (by kernel_rfl)) (by unfold Func.isWrapper; first | (rw [if_pos (by decide +kernel)]; kernel_rfl) | (rw [if_neg (by decide +kernel)]; exact ⟨rfl, rfl⟩))
    (fun os started H enc _ => flexSteps_lifted os started H enc)
#print axioms flexSteps_holds
end Go.Proofs.Ythgpacpahljabaa
