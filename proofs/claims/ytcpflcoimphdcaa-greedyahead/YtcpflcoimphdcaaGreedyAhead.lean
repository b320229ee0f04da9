/-
  GreedyAhead: what comes later does not change the tokens ahead, but for a phrase's length. For every list of texts, every bytes.
  No condition: whatever the input, in whatever memory; the arguments read as before.
-/
import Derived.Test.YtcpflcoimphdcaaGreedySteps
import Derived.BigQuiet
import Derived.ShutString
import Derived.ChangeOld
import Derived.SizedLaws
namespace Go.Proofs.Ytcpflcoimphdcaa
open Go.ChangeShapes Go.WideShapes Go.ChangeAt Go.RowKit
open Go.ChangeMaps (open_string shut_string)

set_option maxRecDepth 20000 in
set_option maxHeartbeats 8000000 in
theorem ahead_walk (v : Value) (L : List ByteArray) (b m : ByteArray) (s1 : b.size ≤ 140737488351232) (s2 : m.size ≤ 140737488351232) (w : World) (h : ListIn w v L) :
    Calls Try.prog 5 #[v, .string b, .string m] w fun e w' => e = .returned (.bool true) ∧ Below w.heap.size w w' := by
  have H := hid h
  clear h
  have hadd : ∀ W : World, (Op.stringOp .add b m).run Try.prog W = .ok (.string (b ++ m)) W := fun W => run_string_add_sum W _ _ (by omega)
  by_cases hfits : Fits L (b ++ m)
  · obtain ⟨_, h400, hF⟩ := id hfits
    have HF := hid hF
    have hl100 := hF.1
    have HFits := hid hfits
    clear hF hfits
    have hbm : b.size + m.size ≤ 400 := by rw [← ByteArray.size_append]; exact h400
    obtain ⟨ts, hts⟩ : ∃ ts, ts = gA L (nums b) := ⟨_, rfl⟩
    obtain ⟨q, hq⟩ : ∃ q, q = ts.length := ⟨_, rfl⟩
    have hq1 : q ≤ b.size := by rw [hq, hts]; exact gA_few HF.out b
    obtain ⟨us, hus⟩ : ∃ us, us = gA L (nums (b ++ m)) := ⟨_, rfl⟩
    obtain ⟨r, hr⟩ : ∃ r, r = us.length := ⟨_, rfl⟩
    have hr1 : r ≤ 400 := by rw [hr, hus]; have := gA_few HF.out (b ++ m); omega
    have hnbm : nums (b ++ m) = nums b ++ nums m := nums_append _ _
    obtain ⟨bm, hbme⟩ : ∃ bm, bm = b ++ m := ⟨_, rfl⟩
    rw [← hbme] at hus h400 hadd HFits hnbm
    have HX := hid hts
    have HQ := hid hq
    have HY := hid hus
    have HR := hid hr
    have HNM := hid hnbm
    clear hts hq hus hr hbme hnbm
    go_enter Try.func5, Try.ntmps5
    go_wp2_with (first
      | (go_at_call 7; refine (dict_fits H.out HFits.out).mono ?_; rintro e w1 ⟨p, rfl, hd1, hb1⟩; have HD1 := hid hd1; have H1 := hid (H.out.below hb1); have HB1 := hid hb1; clear hd1 hb1)
      | (go_at_call 8; refine (alive_any _).mono ?_; rintro e w2 ⟨rfl, hb2⟩; have H2 := hid (H1.out.below hb2); have HD2 := hid (HD1.out.below hb2); have HB2 := hid (HB1.out.trans (hb2.mono HB1.out.size)); clear hb2)
      | (go_at_call_of 9 (Value.string b); refine (parse_any HD2.out HF.out b (by omega)).mono ?_; rintro e w3 ⟨v3, rfl, ho3, hb3⟩; rw [← HX.out, ← HQ.out] at ho3; obtain ⟨a3, c3, rfl⟩ := ownsRow_slice ho3; have HO3 := hid ho3; have HD3 := hid (HD2.out.below hb3); have H3 := hid (H2.out.below hb3); have HB3 := hid (HB2.out.trans (hb3.mono HB2.out.size)); clear ho3 hb3)
      | (go_at_call_of 9 (Value.string bm); refine (parse_any HD3.out HF.out bm (by omega)).mono ?_; rintro e w4 ⟨v4, rfl, ho4, hb4⟩; rw [← HY.out, ← HR.out] at ho4; obtain ⟨a4, c4, rfl⟩ := ownsRow_slice ho4; have HO4 := hid ho4; have HO34 := hid (ownsRow_below HO3.out hb4); have H4 := hid (H3.out.below hb4); have HB4 := hid (HB3.out.trans (hb4.mono HB3.out.size)); clear ho4 hb4))
    go_loopw [11, 42] (fun va vi wr => ∃ i a : Nat, va = .int .i64 a ∧ vi = .int .i64 i ∧ i ≤ q ∧ a ≤ b.size ∧ Hid (ts.drop i = gA L ((nums b).drop a)) ∧ Hid (us.drop i = gA L ((nums b ++ nums m).drop a)) ∧ Hid (Below w4.heap.size w4 wr)) (fun _ vi _ => q - (intOf vi).toNat)
    case atStart => exact ⟨0, 0, rfl, rfl, by omega, by omega, by show _ = _; rw [List.drop_zero, List.drop_zero]; exact HX.out, by show _ = _; rw [List.drop_zero, List.drop_zero, ← HNM.out]; exact HY.out, Below.refl _ _⟩
    case round =>
      obtain ⟨i, a, rfl, rfl, hi, ha, hdr, hdu, hbr⟩ := hrel
      by_cases hin : i < q
      · have hdi : decide ((i : Int) < (q : Int)) = true := decide_eq_true (by omega)
        by_cases hend : b.size < a + 40
        · have hde : decide ((b.size : Int) < (a : Int) + 40) = true := decide_eq_true (by omega)
          have HBr := hid (HB4.out.trans (hbr.out.mono HB4.out.size))
          clear hdr hdu hbr
          go_wp2
          go_ret
          exact ⟨rfl, HBr.out⟩
        · have hde : decide ((b.size : Int) < (a : Int) + 40) = false := decide_eq_false (by omega)
          have hiL : i < ts.length := by rw [← HQ.out]; exact hin
          obtain ⟨g3, c3, e3, _, _⟩ := HO34.out.form (by omega)
          simp only [Value.slice.injEq] at e3
          obtain ⟨rfl, _, rfl⟩ := e3
          have hx' : (decide ((0 : Int) ≤ (i : Int) ∧ (i : Int) < (q : Int))) = true := decide_eq_true ⟨by omega, by omega⟩
          have hcb0 := HO34.out.cellAt i (by omega)
          rw [ints_at ts i hiL] at hcb0
          have hcb := keeps hbr.out _ _ hcb0
          obtain ⟨h1, h2, h3⟩ := drop_next HF.out hdr.out hiL (by rw [nums_length]; exact ha)
          rw [nums_length] at h1
          have hlen : 40 ≤ ((nums b).drop a).length := by rw [List.length_drop, nums_length]; omega
          have hda : (nums b ++ nums m).drop a = (nums b).drop a ++ nums m := List.drop_append_of_le_length (by rw [nums_length]; omega)
          obtain ⟨k1, k2⟩ := g_ahead HF.out ((nums b).drop a) (nums m) hlen
          have hiU : i < us.length := by
            refine Nat.lt_of_not_le (fun h => ?_)
            have := drop_end HF.out hdu.out h (by rw [List.length_append, nums_length]; omega)
            rw [List.length_append, nums_length] at this
            omega
          obtain ⟨_, u2, u3⟩ := drop_next HF.out hdu.out hiU (by rw [List.length_append, nums_length]; omega)
          rw [hda] at u2
          rw [hda, k1] at u3
          rw [k2] at u2
          have hir : i < r := by rw [HR.out]; exact hiU
          obtain ⟨g4, c4, e4, _, _⟩ := HO4.out.form (by omega)
          simp only [Value.slice.injEq] at e4
          obtain ⟨rfl, _, rfl⟩ := e4
          have hx4 : (decide ((0 : Int) ≤ (i : Int) ∧ (i : Int) < (r : Int))) = true := decide_eq_true ⟨by omega, by omega⟩
          have hdr4 : decide ((r : Int) ≤ (i : Int)) = false := decide_eq_false (by omega)
          have hcc0 := HO4.out.cellAt i (by omega)
          rw [ints_at us i hiU] at hcc0
          have hcc := keeps hbr.out _ _ hcc0
          have hp := gN_pos HF.out (drop_some h1)
          have hM := means_any (H4.out.1.below hbr.out) (by omega) _ (gT_is (L := L) b a)
          rw [gT_says HF.out h1] at hM
          rw [List.length_drop, nums_length] at hp
          obtain ⟨t, ht⟩ : ∃ t, t = ts[i]'hiL := ⟨_, rfl⟩
          obtain ⟨n, hn⟩ : ∃ n, n = gN L ((nums b).drop a) := ⟨_, rfl⟩
          rw [← hn] at h3 u3 hp hM
          rw [u2, ← h2, ← ht] at hcc
          rw [← h2, ← ht] at hM
          rw [← ht] at hcb
          have hMn : Calls Try.prog 19 #[v, .int .i64 (t : Int)] wr fun e w' => ∃ s : ByteArray, e = .returned (.tuple #[.string s, .bool true]) ∧ s.size = n ∧ Below wr.heap.size wr w' := by
            refine hM.mono ?_
            rintro e w' ⟨s, rfl, hs, hb⟩
            refine ⟨s, rfl, ?_, hb⟩
            rw [← nums_length, hs, List.length_take, List.length_drop, nums_length]
            omega
          have HMn := hid hMn
          have hcbd := fun nq => keeps (drewN_below wr nq wr.heap.size) _ _ hcb
          have HMd : Hid (∀ nq, Calls Try.prog 19 #[v, .int .i64 (t : Int)] (wr.drewN nq) fun e w' => ∃ s : ByteArray, e = .returned (.tuple #[.string s, .bool true]) ∧ s.size = n ∧ Below w4.heap.size w4 w') := fun nq => by
            have hM := means_any (H4.out.1.below (hbr.out.trans (drewN_below wr nq _))) (by omega) _ (gT_is (L := L) b a)
            rw [gT_says HF.out h1, ← hn, ← h2, ← ht] at hM
            refine hM.mono ?_
            rintro e w' ⟨s, rfl, hs, hb⟩
            refine ⟨s, rfl, ?_, (hbr.out.trans (drewN_below wr nq _)).trans (hb.mono (hbr.out.trans (drewN_below wr nq _)).size)⟩
            rw [← nums_length, hs, List.length_take, List.length_drop, nums_length]
            omega
          have HD3n : Hid (ts.drop (i + 1) = gA L ((nums b).drop (a + n))) := h3
          have HD4n : Hid (us.drop (i + 1) = gA L ((nums b ++ nums m).drop (a + n))) := u3
          have htt : ((t : Int) != (t : Int)) = false := by simp
          have hp1 := hp.1
          have hp2 : a + n ≤ b.size := by omega
          have htl : t ≤ 100000 := by
            have := gT_is (L := L) b a
            rw [← h2, ← ht] at this
            unfold isT at this
            rw [List.length_map] at this
            omega
          clear hM hMn HMn h3 h2 u2 u3 ht hn hcb0 hcc0 hdr hdu hiL hiU hp hda hlen k1 k2
          go_wp2_with fail
          go_quiet (fail)
          go_wp2_with (go_at_call 19; refine (HMd.out _).mono ?_; rintro e w5 ⟨s, rfl, hsn, hb5⟩; subst hsn; have HB5 := hid hb5; clear hb5)
          go_roundw
          case rel => exact ⟨i + 1, _, by go_num, by go_num, by omega, hp2, HD3n.out, HD4n.out, HB5.out⟩
          case measure => simp [intOf]; omega
      · obtain rfl : i = q := by omega
        have HBr := hid (HB4.out.trans (hbr.out.mono HB4.out.size))
        clear hdr hdu hbr
        go_wp2
        go_ret
        exact ⟨rfl, HBr.out⟩
  · have HFits := hid hfits
    clear hfits
    go_enter Try.func5, Try.ntmps5
    go_wp2_with (first
      | (go_at_call 7; refine (dict_no H.out HFits.out).mono ?_; rintro e w1 ⟨rfl, rfl⟩)
      | (go_at_call 8; refine (alive_any _).mono ?_; rintro e w2 ⟨rfl, hb2⟩))
    go_ret
    exact ⟨rfl, hb2⟩

set_option linter.unusedVariables false
theorem greedyAhead_own : ownKnob Try.prog.godebug = none := by kernel_rfl

theorem greedyAhead_laidOut : laidOutB Try.prog = true := by kernel_rfl

set_option maxRecDepth 100000 in
theorem greedyAhead_lifted (os : Os) (started : os.Started) (H : Type) (enc : TypeId × Value → H) :
    ReturnsInHanded {} Try.checked os 5 .any (Rows.greedyAheadSpec.pre6 enc Try.prog Try.f5 Rows.greedyAheadRow.domain false) (Rows.greedyAheadSpec.post enc Try.prog Try.f5 false true false false) := by
  refine returnsInHanded_of_change_sized (C := Try.checked) greedyAhead_own started (by kernel_rfl) Try.func5
    (ChangeSpec.witness6 (enc := enc) (C := Try.checked) false ⟨#[], #[.slice none 0 0, .string ByteArray.empty, .string ByteArray.empty], []⟩ 8 (by kernel_rfl) (by kernel_rfl) (by kernel_rfl) (by kernel_rfl)) ?_
  intro W base args ds gs before hval0 hW hcnd hsz0 _
  have hsz : (DataW.weightsEach Try.prog (Try.f5.params.toList ++ Rows.greedyAheadSpec.plain.varTypes Try.prog) (ds ++ gs)).all (· ≤ reachBytes) = true := hsz0
  have hval : ∀ (j : Nat) t v, Try.f5.params[j]? = some t → args[j]? = some v → Value.okWide Try.prog W .any base t v := hval0
  have hW' := hW
  obtain ⟨p, q, hA0, hV, rfl, hfz, hnd⟩ := hW
  have hA : DataW.TrodAll enc Try.prog W 0 (fun _ => true) true Try.f5.params.toList args.toList ds p := hA0
  rw [Try.params5] at hA hval hsz
  obtain ⟨v0, vs0, d0, ds0, p0, q0, hargs, rfl, rfl, h0, r0⟩ := trodAll_cons hA
  obtain ⟨v1, vs1, d1, ds1, p1, q1, rfl, rfl, rfl, h1, r1⟩ := trodAll_cons r0
  obtain ⟨v2, vs2, d2, ds2, p2, q2, rfl, rfl, rfl, h2, r2⟩ := trodAll_cons r1
  obtain ⟨rfl, rfl, rfl⟩ := trodAll_nil r2
  obtain rfl : args = #[v0, v1, v2] := by cases args; simp_all
  obtain ⟨rfl, rfl⟩ := trodVars_none hV
  obtain ⟨a0, len0, cap0, rfl⟩ := okWide_slice Try.underlying22 (hval 0 22 v0 rfl rfl)
  have k0 := h0
  have lt0 : ∀ x ∈ p0, x.block < W.heap.size := by obtain ⟨m, hm⟩ := k0; exact DataW.trod_lt m _ _ _ hm
  obtain ⟨z0, w0⟩ := h0.elim (fun _ hf => open_list hf hsz 0 rfl rfl)
  obtain ⟨a1, rfl, rfl, rfl, w1⟩ := open_string Try.underlying9 (hval 1 9 v1 rfl rfl) h1
  obtain ⟨a2, rfl, rfl, rfl, w2⟩ := open_string Try.underlying9 (hval 2 9 v2 rfl rfl) h2
  clear hA0 hval0
  have s1 : a1.size ≤ 140737488351232 := by have h := sized_string hsz (j := 1) (t := 9) rfl rfl; rw [Array.length_toList] at h; exact h
  have s2 : a2.size ≤ 140737488351232 := by have h := sized_string hsz (j := 2) (t := 9) rfl rfl; rw [Array.length_toList] at h; exact h
  refine (ahead_walk _ z0 a1 a2 s1 s2 W w0).mono fun e W' ⟨he, bel⟩ => ?_
  subst he
  exact ⟨_, rfl, _, _, _, [], _, [], hW', trodAll_mk1 (shut_bool Try.underlying4 _), (trodAll_cons_mk (Below.trod greedyAhead_laidOut (by kernel_rfl) (of_decide_eq_true (by kernel_rfl)) k0 bel lt0) (trodAll_cons_mk (shut_string Try.underlying9 w1) (trodAll_cons_mk (shut_string Try.underlying9 w2) trodAll_mk0))), rfl, bel.frame _, fun h => by cases h⟩

/-- THE STATEMENT. -/
theorem greedyAhead_holds : Rows.GreedyAheadSaid :=
  OpenClaim.holds_of_wide 5 Try.f5 rfl rfl rfl rfl rfl rfl rfl ⟨rfl, rfl, rfl, rfl, rfl⟩ rfl rfl rfl rfl rfl (by kernel_rfl) Try.func5 (by kernel_rfl)
    (of_decide_eq_true (by kernel_rfl)) (by unfold Func.isWrapper; first | (rw [if_pos (by decide +kernel)]; kernel_rfl) | (rw [if_neg (by decide +kernel)]; exact ⟨rfl, rfl⟩))
    (fun os started H enc _ => greedyAhead_lifted os started H enc)
#print axioms greedyAhead_holds
end Go.Proofs.Ytcpflcoimphdcaa
