/-
  MeanBound: a bound below 0 is one of 0: then only nothing may be meant. For every list of texts, every bound, every list of numbers.
  No condition: whatever the input, in whatever memory; the arguments read as before.
-/
import Derived.Test.YtchbjokcnpcgcaaAlive16
import Derived.Test.YtchbjokcnpcgcaaInts
import Derived.ChangeOld
import Derived.SizedLaws
namespace Go.Proofs.Ytchbjokcnpcgcaa
open Go.ChangeShapes Go.WideShapes Go.ChangeAt Go.RowKit

/-- By such a bound nothing is meant, and an error is told where there is something. -/
theorem bound_math {L : List ByteArray} (hF : Fine L) (zs : List Int) : ∃ E : Nat, (zs.length = 0 ∧ E = 0 ∨ zs.length ≠ 0 ∧ (E = 9 ∨ E = 10)) ∧ ∀ m : Int, m ≤ 0 → (Value.tuple #[.string (bytesOf (ofR L m zs).1), .int .i64 ((ofR L m zs).2 : Int)]) = .tuple #[.string ⟨#[]⟩, .int .i64 (E : Int)] := by
  have h1 := meanR_zero (L.map nums) (fine_no hF) zs
  have h2 := meanR_either (L.map nums) 0 zs []
  refine ⟨(meanR (L.map nums) 0 [] zs).2, ?_, fun m hm => ?_⟩
  · rcases Nat.eq_zero_or_pos zs.length with h | h
    · exact .inl ⟨h, h1.2.2 (List.length_eq_zero_iff.1 h)⟩
    · refine .inr ⟨by omega, ?_⟩
      rcases h2 with h2 | h2
      · have := h1.2.1 h2
        rw [this] at h
        simp at h
      · exact h2.2
  · rw [ofR_low hm, h1.1]
    rfl

set_option maxRecDepth 20000 in
set_option maxHeartbeats 8000000 in
theorem bound_walk (v : Value) (L : List ByteArray) (n : Int) (a : Option Addr) (len cap : Nat) (z : Nat → Int) (g1 : -9223372036854775808 ≤ n) (g2 : n ≤ 9223372036854775807) (w : World) (h : ListIn w v L) (hin : IsInts w a len z) :
    Calls Try.prog 7 #[v, .int .i64 n, .slice a len cap] w fun e w' => e = .returned (.bool true) ∧ Below w.heap.size w w' := by
  have H := hid h
  clear h
  by_cases hfits : Fits L (⟨#[]⟩)
  · obtain ⟨_, h400, hF⟩ := id hfits
    have HF := hid hF
    have hl100 := hF.1
    have HFits := hid hfits
    clear hF hfits
    by_cases hn : n ≤ 0 ∧ len ≤ 100
    · obtain ⟨hn, hlen⟩ := hn
      have hd6 : decide ((100 : Int) < (len : Int)) = false := decide_eq_false (by omega)
      have hd62 : decide (100 < len) = false := decide_eq_false (by omega)
      have hd7 : decide (0 < n) = false := decide_eq_false (by omega)
      obtain ⟨zs, hzs⟩ : ∃ zs, zs = (List.range len).map z := ⟨_, rfl⟩
      have hzl : zs.length = len := by rw [hzs]; simp
      have HR := hid (isInts_reads (cap := cap) hin)
      rw [← hzs] at HR
      have HZL : Hid (zs.length ≤ 100000) := by show _ ≤ _; omega
      obtain ⟨E, hE, hM⟩ := bound_math HF.out zs
      have HM := hid hM
      rw [hzl] at hE
      clear hin hzs hM
      rcases hE with ⟨h0, rfl⟩ | ⟨h0, hE⟩
      ·
        subst h0

        go_enter Try.func7, Try.ntmps7
        go_wp2_with (first
          | (go_at_call 8; refine (dict_fits H.out HFits.out).mono ?_; rintro e w1 ⟨p, rfl, hd1, hb1⟩; have HD1 := hid hd1; have H1 := hid (H.out.below hb1); have HB1 := hid hb1; have HR1 := hid (HR.out.below hb1); clear hd1 hb1)
          | (go_at_call 9; refine (alive_16 _).mono ?_; rintro e w2 ⟨rfl, hb2⟩; have H2 := hid (H1.out.below hb2); have HD2 := hid (HD1.out.below hb2); have HB2 := hid (HB1.out.trans (hb2.mono HB1.out.size)); have HR2 := hid (HR1.out.below hb2); clear hb2)
          | (have _h := later; go_at_call 11; refine (of_any HD3.out HF.out HR3.out HZL.out 0 (by decide) (by decide)).mono ?_; rintro e w4 ⟨rfl, hb4⟩; rw [HM.out 0 (by decide)]; have HB4 := hid (below_more HB3.out hb4); clear hb4)
          | (go_at_call 11; refine (of_any HD2.out HF.out HR2.out HZL.out n g1 g2).mono ?_; rintro e w3 ⟨rfl, hb3⟩; rw [HM.out n hn]; have HD3 := hid (HD2.out.below hb3); have HR3 := hid (HR2.out.below hb3); have HB3 := hid (below_more HB2.out hb3); have later := hid True.intro; clear hb3))
        go_ret
        exact ⟨by simp, HB4.out⟩
      ·
        have he1 : ((len : Int) == 0) = false := by simp; omega
        have he2 : (len == 0) = false := by simp; omega
        rcases hE with rfl | rfl
        ·
          go_enter Try.func7, Try.ntmps7
          go_wp2_with (first
            | (go_at_call 8; refine (dict_fits H.out HFits.out).mono ?_; rintro e w1 ⟨p, rfl, hd1, hb1⟩; have HD1 := hid hd1; have H1 := hid (H.out.below hb1); have HB1 := hid hb1; have HR1 := hid (HR.out.below hb1); clear hd1 hb1)
            | (go_at_call 9; refine (alive_16 _).mono ?_; rintro e w2 ⟨rfl, hb2⟩; have H2 := hid (H1.out.below hb2); have HD2 := hid (HD1.out.below hb2); have HB2 := hid (HB1.out.trans (hb2.mono HB1.out.size)); have HR2 := hid (HR1.out.below hb2); clear hb2)
            | (have _h := later; go_at_call 11; refine (of_any HD3.out HF.out HR3.out HZL.out 0 (by decide) (by decide)).mono ?_; rintro e w4 ⟨rfl, hb4⟩; rw [HM.out 0 (by decide)]; have HB4 := hid (below_more HB3.out hb4); clear hb4)
            | (go_at_call 11; refine (of_any HD2.out HF.out HR2.out HZL.out n g1 g2).mono ?_; rintro e w3 ⟨rfl, hb3⟩; rw [HM.out n hn]; have HD3 := hid (HD2.out.below hb3); have HR3 := hid (HR2.out.below hb3); have HB3 := hid (below_more HB2.out hb3); have later := hid True.intro; clear hb3))
          go_ret
          exact ⟨by simp, HB4.out⟩
        ·
          go_enter Try.func7, Try.ntmps7
          go_wp2_with (first
            | (go_at_call 8; refine (dict_fits H.out HFits.out).mono ?_; rintro e w1 ⟨p, rfl, hd1, hb1⟩; have HD1 := hid hd1; have H1 := hid (H.out.below hb1); have HB1 := hid hb1; have HR1 := hid (HR.out.below hb1); clear hd1 hb1)
            | (go_at_call 9; refine (alive_16 _).mono ?_; rintro e w2 ⟨rfl, hb2⟩; have H2 := hid (H1.out.below hb2); have HD2 := hid (HD1.out.below hb2); have HB2 := hid (HB1.out.trans (hb2.mono HB1.out.size)); have HR2 := hid (HR1.out.below hb2); clear hb2)
            | (have _h := later; go_at_call 11; refine (of_any HD3.out HF.out HR3.out HZL.out 0 (by decide) (by decide)).mono ?_; rintro e w4 ⟨rfl, hb4⟩; rw [HM.out 0 (by decide)]; have HB4 := hid (below_more HB3.out hb4); clear hb4)
            | (go_at_call 11; refine (of_any HD2.out HF.out HR2.out HZL.out n g1 g2).mono ?_; rintro e w3 ⟨rfl, hb3⟩; rw [HM.out n hn]; have HD3 := hid (HD2.out.below hb3); have HR3 := hid (HR2.out.below hb3); have HB3 := hid (below_more HB2.out hb3); have later := hid True.intro; clear hb3))
          go_ret
          exact ⟨by simp, HB4.out⟩
    ·
      by_cases h60 : len ≤ 100
      ·
        have hd6 : decide ((100 : Int) < (len : Int)) = false := decide_eq_false (by omega)
        have hd62 : decide (100 < len) = false := decide_eq_false (by omega)
        have hd7 : decide (0 < n) = true := decide_eq_true (by omega)
        go_enter Try.func7, Try.ntmps7
        go_wp2_with (first
          | (go_at_call 8; refine (dict_fits H.out HFits.out).mono ?_; rintro e w1 ⟨p, rfl, hd1, hb1⟩; have HD1 := hid hd1; have H1 := hid (H.out.below hb1); have HB1 := hid hb1; clear hd1 hb1)
          | (go_at_call 9; refine (alive_16 _).mono ?_; rintro e w2 ⟨rfl, hb2⟩))
        go_ret
        exact ⟨rfl, below_more HB1.out hb2⟩
      ·
        have hd6 : decide ((100 : Int) < (len : Int)) = true := decide_eq_true (by omega)
        have hd62 : decide (100 < len) = true := decide_eq_true (by omega)
        go_enter Try.func7, Try.ntmps7
        go_wp2_with (first
          | (go_at_call 8; refine (dict_fits H.out HFits.out).mono ?_; rintro e w1 ⟨p, rfl, hd1, hb1⟩; have HD1 := hid hd1; have H1 := hid (H.out.below hb1); have HB1 := hid hb1; clear hd1 hb1)
          | (go_at_call 9; refine (alive_16 _).mono ?_; rintro e w2 ⟨rfl, hb2⟩))
        go_ret
        exact ⟨rfl, below_more HB1.out hb2⟩
  · have HFits := hid hfits
    clear hfits
    go_enter Try.func7, Try.ntmps7
    go_wp2_with (first
      | (go_at_call 8; refine (dict_no H.out HFits.out).mono ?_; rintro e w1 ⟨rfl, rfl⟩)
      | (go_at_call 9; refine (alive_16 _).mono ?_; rintro e w2 ⟨rfl, hb2⟩))
    go_ret
    exact ⟨rfl, hb2⟩

set_option linter.unusedVariables false
theorem meanBound_own : ownKnob Try.prog.godebug = none := by kernel_rfl

theorem meanBound_laidOut : laidOutB Try.prog = true := by kernel_rfl

set_option maxRecDepth 100000 in
theorem meanBound_lifted (os : Os) (started : os.Started) (H : Type) (enc : TypeId × Value → H) :
    ReturnsInHanded {} Try.checked os 7 .any (Rows.meanBoundSpec.pre6 enc Try.prog Try.f7 Rows.meanBoundRow.domain false) (Rows.meanBoundSpec.post enc Try.prog Try.f7 false true false false) := by
  refine returnsInHanded_of_change_sized (C := Try.checked) meanBound_own started (by kernel_rfl) Try.func7
    (ChangeSpec.witness6 (enc := enc) (C := Try.checked) false ⟨#[], #[.slice none 0 0, .int .i64 0, .slice none 0 0], []⟩ 8 (by kernel_rfl) (by kernel_rfl) (by kernel_rfl) (by kernel_rfl)) ?_
  intro W base args ds gs before hval0 hW hcnd hsz0 _
  have hsz : (DataW.weightsEach Try.prog (Try.f7.params.toList ++ Rows.meanBoundSpec.plain.varTypes Try.prog) (ds ++ gs)).all (· ≤ reachBytes) = true := hsz0
  have hval : ∀ (j : Nat) t v, Try.f7.params[j]? = some t → args[j]? = some v → Value.okWide Try.prog W .any base t v := hval0
  have hW' := hW
  obtain ⟨p, q, hA0, hV, rfl, hfz, hnd⟩ := hW
  have hA : DataW.TrodAll enc Try.prog W 0 (fun _ => true) true Try.f7.params.toList args.toList ds p := hA0
  rw [Try.params7] at hA hval hsz
  obtain ⟨v0, vs0, d0, ds0, p0, q0, hargs, rfl, rfl, h0, r0⟩ := trodAll_cons hA
  obtain ⟨v1, vs1, d1, ds1, p1, q1, rfl, rfl, rfl, h1, r1⟩ := trodAll_cons r0
  obtain ⟨v2, vs2, d2, ds2, p2, q2, rfl, rfl, rfl, h2, r2⟩ := trodAll_cons r1
  obtain ⟨rfl, rfl, rfl⟩ := trodAll_nil r2
  obtain rfl : args = #[v0, v1, v2] := by cases args; simp_all
  obtain ⟨rfl, rfl⟩ := trodVars_none hV
  obtain ⟨a0, len0, cap0, rfl⟩ := okWide_slice Try.underlying22 (hval 0 22 v0 rfl rfl)
  have k0 := h0
  have lt0 : ∀ x ∈ p0, x.block < W.heap.size := by obtain ⟨m, hm⟩ := k0; exact DataW.trod_lt m _ _ _ hm
  obtain ⟨z0, w0⟩ := h0.elim (fun _ hf => open_list hf hsz 0 rfl rfl)
  obtain ⟨a1, rfl, rfl, rfl, w1⟩ := open_int Try.underlying3 (hval 1 3 v1 rfl rfl) h1
  obtain ⟨a2, len2, cap2, rfl⟩ := okWide_slice Try.underlying23 (hval 2 23 v2 rfl rfl)
  have k2 := h2
  have lt2 : ∀ x ∈ p2, x.block < W.heap.size := by obtain ⟨m, hm⟩ := k2; exact DataW.trod_lt m _ _ _ hm
  obtain ⟨z2, w2⟩ := h2.elim (fun _ hf => open_numbers hf)
  clear hA0 hval0
  refine (bound_walk _ z0 a1 a2 len2 cap2 z2 (word_low w1) (word_of w1) W w0 w2).mono fun e W' ⟨he, bel⟩ => ?_
  subst he
  exact ⟨_, rfl, _, _, _, [], _, [], hW', trodAll_mk1 (shut_bool Try.underlying4 _), (trodAll_cons_mk (Below.trod meanBound_laidOut (by kernel_rfl) (of_decide_eq_true (by kernel_rfl)) k0 bel lt0) (trodAll_cons_mk (shut_int Try.underlying3 w1) (trodAll_cons_mk (Below.trod meanBound_laidOut (by kernel_rfl) (of_decide_eq_true (by kernel_rfl)) k2 bel lt2) trodAll_mk0))), rfl, bel.frame _, fun h => by cases h⟩

/-- THE STATEMENT. -/
theorem meanBound_holds : Rows.MeanBoundSaid :=
  OpenClaim.holds_of_wide 7 Try.f7 rfl rfl rfl rfl rfl rfl rfl ⟨rfl, rfl, rfl, rfl, rfl⟩ rfl rfl rfl rfl rfl (by kernel_rfl) Try.func7 (by kernel_rfl)
    (of_decide_eq_true (by kernel_rfl)) (by unfold Func.isWrapper; first | (rw [if_pos (by decide +kernel)]; kernel_rfl) | (rw [if_neg (by decide +kernel)]; exact ⟨rfl, rfl⟩))
    (fun os started H enc _ => meanBound_lifted os started H enc)
#print axioms meanBound_holds
end Go.Proofs.Ytchbjokcnpcgcaa
