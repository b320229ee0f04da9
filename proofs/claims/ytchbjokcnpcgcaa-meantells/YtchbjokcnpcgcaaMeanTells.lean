/-
  MeanTells: of every dictionary, every tokens, every bound: what they mean, or that they do not; what is handed in stays. For every list of texts, every bound, every list of numbers, every number.
  No condition: whatever the input, in whatever memory; the arguments read as before.
-/
import Derived.Test.YtchbjokcnpcgcaaAlive16
import Derived.Test.YtchbjokcnpcgcaaIntLent
import Derived.ChangeOld
import Derived.SizedLaws
namespace Go.Proofs.Ytchbjokcnpcgcaa
open Go.ChangeShapes Go.WideShapes Go.ChangeAt Go.RowKit

theorem right_nil (w : World) : Calls Try.prog 15 #[.pointer none, .int .i64 256] w fun e w' => e = .returned (.bool false) ∧ w' = w := by
  refine (right_any (dict_none w) (by simp) 256).mono ?_
  rintro e w' ⟨rfl, rfl⟩
  exact ⟨by rw [show decide (isI (([] : List ByteArray).map nums) 256) = false by decide], rfl⟩

theorem len_nil (w : World) : Calls Try.prog 14 #[.pointer none, .int .i64 97] w fun e w' => e = .returned (.int .i64 1) ∧ w' = w :=
  len_in (dict_none w) (by simp) 97 (by unfold isT; decide)

set_option maxRecDepth 20000 in
set_option maxHeartbeats 8000000 in
theorem tells_walk (v : Value) (L : List ByteArray) (n : Int) (a : Option Addr) (len cap : Nat) (z : Nat → Int) (t : Int) (g1 : -9223372036854775808 ≤ n) (g2 : n ≤ 9223372036854775807) (w : World) (h : ListIn w v L) (hin : IsInts w a len z) :
    Calls Try.prog 3 #[v, .int .i64 n, .slice a len cap, .int .i64 t] w fun e w' => e = .returned (.bool true) ∧ Below w.heap.size w w' := by
  have H := hid h
  clear h
  by_cases hfits : Fits L (⟨#[]⟩)
  · obtain ⟨_, h400, hF⟩ := id hfits
    have HF := hid hF
    have hl100 := hF.1
    have HFits := hid hfits
    clear hF hfits
    by_cases h60 : len ≤ 300
    ·
      have hd6 : decide ((300 : Int) < (len : Int)) = false := decide_eq_false (by omega)
      have hd62 : decide (300 < len) = false := decide_eq_false (by omega)
      have hl1 : L.length ≤ 1000 := by omega
      have H40 : Hid (∀ s ∈ L, s.size ≤ 40) := fun s hs => (((fine_iff L).1 HF.out).2.1 s hs).2
      obtain ⟨zs, hzs⟩ : ∃ zs, zs = (List.range len).map z := ⟨_, rfl⟩
      have hzl : zs.length = len := by rw [hzs]; simp
      have HR := hid (isInts_reads (cap := cap) hin)
      rw [← hzs] at HR
      have HZ := hid hzl
      have HZL : Hid (zs.length ≤ 100000) := by show _ ≤ _; omega
      obtain ⟨E, b, hM⟩ : ∃ (E : Nat) (b : ByteArray), (Value.tuple #[.string (bytesOf (ofR L n zs).1), .int .i64 ((ofR L n zs).2 : Int)]) = .tuple #[.string b, .int .i64 (E : Int)] := ⟨_, _, rfl⟩
      have HM := hid hM
      have HMr : Hid ((Value.tuple #[.string (bytesOf (meanR (L.map nums) (max n 0).toNat [] zs).1), .int .i64 ((meanR (L.map nums) (max n 0).toNat [] zs).2 : Int)]) = .tuple #[.string b, .int .i64 (E : Int)]) := hM
      have hbb : (b.toList == b.toList) = true := text_eq rfl
      have hEE : ((E : Int) == (E : Int)) = true := by simp
      clear hin hzs hM hzl
      by_cases ht : isI (L.map nums) t
      ·
        obtain ⟨k, rfl⟩ : ∃ k : Nat, t = (k : Int) := ⟨t.toNat, by unfold isI at ht; omega⟩
        have HkT : Hid (isT (L.map nums) k) := by show isT _ _; unfold isI at ht; unfold isT; omega
        have HRt : Hid (decide (isI (L.map nums) (k : Int)) = true) := decide_eq_true ht
        clear ht

        go_enter Try.func3, Try.ntmps3
        go_wp2_with (first
          | (go_at_call 8; refine (dict_fits H.out HFits.out).mono ?_; rintro e w1 ⟨p, rfl, hd1, hb1⟩; have HD1 := hid hd1; have H1 := hid (H.out.below hb1); have HB1 := hid hb1; have HR1 := hid (HR.out.below hb1); clear hd1 hb1)
          | (go_at_call 9; refine (alive_16 _).mono ?_; rintro e w2 ⟨rfl, hb2⟩; have H2 := hid (H1.out.below hb2); have HD2 := hid (HD1.out.below hb2); have HB2 := hid (HB1.out.trans (hb2.mono HB1.out.size)); have HR2 := hid (HR1.out.below hb2); clear hb2)
          | (go_at_call 10; refine (lentI_any HR2.out HZL.out).mono ?_; rintro e w3 ⟨g, c3, rfl, ho3, hc3, hb3⟩; rw [HZ.out] at ho3 hc3 ⊢; have HO3 := hid ho3; have HC3 := hid hc3; have H3 := hid (H2.out.below hb3); have HD3 := hid (HD2.out.below hb3); have HR3 := hid (HR2.out.below hb3); have HB3 := hid (below_more HB2.out hb3); clear ho3 hc3 hb3)
          | (go_at_call 11; refine (of_any HD3.out HF.out (lentI_reads HO3.out HZ.out) HZL.out n g1 g2).mono ?_; rintro e w4 ⟨rfl, hb4⟩; rw [HM.out]; have HO4 := hid (ownsRow_below HO3.out hb4); have H4 := hid (H3.out.below hb4); have HD4 := hid (HD3.out.below hb4); have HR4 := hid (HR3.out.below hb4); have HB4 := hid (below_more HB3.out hb4); clear hb4)
          | (go_at_call 12; refine (meanAll_any H4.out.1 hl1 H40.out HR4.out HZL.out n).mono ?_; rintro e w5 ⟨rfl, hb5⟩; rw [HMr.out]; have HO5 := hid (ownsRow_below HO4.out hb5); have H5 := hid (H4.out.below hb5); have HD5 := hid (HD4.out.below hb5); have HR5 := hid (HR4.out.below hb5); have HB5 := hid (below_more HB4.out hb5); clear hb5)
          | (go_at_call 13; refine (means_any H5.out.1 hl1 k HkT.out).mono ?_; rintro e w6 ⟨s, rfl, hs, hb6⟩; have hss := nums_length s; rw [hs] at hss; have HQ := hid hss; have hsl := say_short H40.out k; rw [hss] at hsl; have HO6 := hid (ownsRow_below HO5.out hb6); have HD6 := hid (HD5.out.below hb6); have HR6 := hid (HR5.out.below hb6); have HB6 := hid (below_more HB5.out hb6); clear hs hss hb6)
          | (go_at_call_of 15 (Value.pointer none); refine (right_nil _).mono ?_; rintro e wA ⟨rfl, rfl⟩)
          | (go_at_call_of 14 (Value.pointer none); refine (len_nil _).mono ?_; rintro e wB ⟨rfl, rfl⟩)
          | (go_at_call 14; refine (len_in HD6.out hl1 k HkT.out).mono ?_; rintro e w7 ⟨rfl, rfl⟩; rw [HQ.out])
          | (go_at_call 15; refine (right_any HD6.out hl1 _).mono ?_; rintro e w8 ⟨rfl, rfl⟩; rw [HRt.out])
          | (go_at_call 16; refine (staysI_any HO6.out HC3.out HR6.out HZ.out (by omega)).mono ?_; rintro e w9 ⟨rfl, hb9⟩; have HB9 := hid (below_more HB6.out hb9); clear hb9))
        go_ret
        exact ⟨by simp, HB9.out⟩
      ·
        have HkT := hid ht
        have HRt : Hid (decide (isI (L.map nums) t) = false) := decide_eq_false ht
        clear ht

        go_enter Try.func3, Try.ntmps3
        go_wp2_with (first
          | (go_at_call 8; refine (dict_fits H.out HFits.out).mono ?_; rintro e w1 ⟨p, rfl, hd1, hb1⟩; have HD1 := hid hd1; have H1 := hid (H.out.below hb1); have HB1 := hid hb1; have HR1 := hid (HR.out.below hb1); clear hd1 hb1)
          | (go_at_call 9; refine (alive_16 _).mono ?_; rintro e w2 ⟨rfl, hb2⟩; have H2 := hid (H1.out.below hb2); have HD2 := hid (HD1.out.below hb2); have HB2 := hid (HB1.out.trans (hb2.mono HB1.out.size)); have HR2 := hid (HR1.out.below hb2); clear hb2)
          | (go_at_call 10; refine (lentI_any HR2.out HZL.out).mono ?_; rintro e w3 ⟨g, c3, rfl, ho3, hc3, hb3⟩; rw [HZ.out] at ho3 hc3 ⊢; have HO3 := hid ho3; have HC3 := hid hc3; have H3 := hid (H2.out.below hb3); have HD3 := hid (HD2.out.below hb3); have HR3 := hid (HR2.out.below hb3); have HB3 := hid (below_more HB2.out hb3); clear ho3 hc3 hb3)
          | (go_at_call 11; refine (of_any HD3.out HF.out (lentI_reads HO3.out HZ.out) HZL.out n g1 g2).mono ?_; rintro e w4 ⟨rfl, hb4⟩; rw [HM.out]; have HO4 := hid (ownsRow_below HO3.out hb4); have H4 := hid (H3.out.below hb4); have HD4 := hid (HD3.out.below hb4); have HR4 := hid (HR3.out.below hb4); have HB4 := hid (below_more HB3.out hb4); clear hb4)
          | (go_at_call 12; refine (meanAll_any H4.out.1 hl1 H40.out HR4.out HZL.out n).mono ?_; rintro e w5 ⟨rfl, hb5⟩; rw [HMr.out]; have HO5 := hid (ownsRow_below HO4.out hb5); have H5 := hid (H4.out.below hb5); have HD5 := hid (HD4.out.below hb5); have HR5 := hid (HR4.out.below hb5); have HB5 := hid (below_more HB4.out hb5); clear hb5)
          | (go_at_call 13; refine (means_none H5.out.1 hl1 t HkT.out).mono ?_; rintro e w6 ⟨rfl, hw6⟩; have hb6 : Below w5.heap.size w5 w6 := (by rw [hw6]; exact Below.refl _ _); have HO6 := hid (ownsRow_below HO5.out hb6); have HD6 := hid (HD5.out.below hb6); have HR6 := hid (HR5.out.below hb6); have HB6 := hid (below_more HB5.out hb6); clear hw6 hb6)
          | (go_at_call_of 15 (Value.pointer none); refine (right_nil _).mono ?_; rintro e wA ⟨rfl, rfl⟩)
          | (go_at_call_of 14 (Value.pointer none); refine (len_nil _).mono ?_; rintro e wB ⟨rfl, rfl⟩)
          | (go_at_call 14; refine (len_off HD6.out hl1 t HkT.out).mono ?_; rintro e w7 ⟨rfl, rfl⟩)
          | (go_at_call 15; refine (right_any HD6.out hl1 _).mono ?_; rintro e w8 ⟨rfl, rfl⟩; rw [HRt.out])
          | (go_at_call 16; refine (staysI_any HO6.out HC3.out HR6.out HZ.out (by omega)).mono ?_; rintro e w9 ⟨rfl, hb9⟩; have HB9 := hid (below_more HB6.out hb9); clear hb9))
        go_ret
        exact ⟨by simp, HB9.out⟩
    ·
      have hd6 : decide ((300 : Int) < (len : Int)) = true := decide_eq_true (by omega)
      have hd62 : decide (300 < len) = true := decide_eq_true (by omega)
      go_enter Try.func3, Try.ntmps3
      go_wp2_with (first
        | (go_at_call 8; refine (dict_fits H.out HFits.out).mono ?_; rintro e w1 ⟨p, rfl, hd1, hb1⟩; have HD1 := hid hd1; have H1 := hid (H.out.below hb1); have HB1 := hid hb1; clear hd1 hb1)
        | (go_at_call 9; refine (alive_16 _).mono ?_; rintro e w2 ⟨rfl, hb2⟩))
      go_ret
      exact ⟨rfl, below_more HB1.out hb2⟩
  · have HFits := hid hfits
    clear hfits
    go_enter Try.func3, Try.ntmps3
    go_wp2_with (first
      | (go_at_call 8; refine (dict_no H.out HFits.out).mono ?_; rintro e w1 ⟨rfl, rfl⟩)
      | (go_at_call 9; refine (alive_16 _).mono ?_; rintro e w2 ⟨rfl, hb2⟩))
    go_ret
    exact ⟨rfl, hb2⟩

set_option linter.unusedVariables false
theorem meanTells_own : ownKnob Try.prog.godebug = none := by kernel_rfl

theorem meanTells_laidOut : laidOutB Try.prog = true := by kernel_rfl

set_option maxRecDepth 100000 in
theorem meanTells_lifted (os : Os) (started : os.Started) (H : Type) (enc : TypeId × Value → H) :
    ReturnsInHanded {} Try.checked os 3 .any (Rows.meanTellsSpec.pre6 enc Try.prog Try.f3 Rows.meanTellsRow.domain false) (Rows.meanTellsSpec.post enc Try.prog Try.f3 false true false false) := by
  refine returnsInHanded_of_change_sized (C := Try.checked) meanTells_own started (by kernel_rfl) Try.func3
    (ChangeSpec.witness6 (enc := enc) (C := Try.checked) false ⟨#[], #[.slice none 0 0, .int .i64 0, .slice none 0 0, .int .i64 0], []⟩ 8 (by kernel_rfl) (by kernel_rfl) (by kernel_rfl) (by kernel_rfl)) ?_
  intro W base args ds gs before hval0 hW hcnd hsz0 _
  have hsz : (DataW.weightsEach Try.prog (Try.f3.params.toList ++ Rows.meanTellsSpec.plain.varTypes Try.prog) (ds ++ gs)).all (· ≤ reachBytes) = true := hsz0
  have hval : ∀ (j : Nat) t v, Try.f3.params[j]? = some t → args[j]? = some v → Value.okWide Try.prog W .any base t v := hval0
  have hW' := hW
  obtain ⟨p, q, hA0, hV, rfl, hfz, hnd⟩ := hW
  have hA : DataW.TrodAll enc Try.prog W 0 (fun _ => true) true Try.f3.params.toList args.toList ds p := hA0
  rw [Try.params3] at hA hval hsz
  obtain ⟨v0, vs0, d0, ds0, p0, q0, hargs, rfl, rfl, h0, r0⟩ := trodAll_cons hA
  obtain ⟨v1, vs1, d1, ds1, p1, q1, rfl, rfl, rfl, h1, r1⟩ := trodAll_cons r0
  obtain ⟨v2, vs2, d2, ds2, p2, q2, rfl, rfl, rfl, h2, r2⟩ := trodAll_cons r1
  obtain ⟨v3, vs3, d3, ds3, p3, q3, rfl, rfl, rfl, h3, r3⟩ := trodAll_cons r2
  obtain ⟨rfl, rfl, rfl⟩ := trodAll_nil r3
  obtain rfl : args = #[v0, v1, v2, v3] := by cases args; simp_all
  obtain ⟨rfl, rfl⟩ := trodVars_none hV
  obtain ⟨a0, len0, cap0, rfl⟩ := okWide_slice Try.underlying22 (hval 0 22 v0 rfl rfl)
  have k0 := h0
  have lt0 : ∀ x ∈ p0, x.block < W.heap.size := by obtain ⟨m, hm⟩ := k0; exact DataW.trod_lt m _ _ _ hm
  obtain ⟨z0, w0⟩ := h0.elim (fun _ hf => open_list hf hsz 0 rfl rfl)
  obtain ⟨a1, rfl, rfl, rfl, w1⟩ := open_int Try.underlying3 (hval 1 3 v1 rfl rfl) h1
  obtain ⟨a2, len2, cap2, rfl⟩ := okWide_slice Try.underlying23 (hval 2 23 v2 rfl rfl)
  have k2 := h2
  have lt2 : ∀ x ∈ p2, x.block < W.heap.size := by obtain ⟨m, hm⟩ := k2; exact DataW.trod_lt m _ _ _ hm
  obtain ⟨z2, w2⟩ := h2.elim (fun _ hf => open_numbers hf)
  obtain ⟨a3, rfl, rfl, rfl, w3⟩ := open_int Try.underlying3 (hval 3 3 v3 rfl rfl) h3
  clear hA0 hval0
  refine (tells_walk _ z0 a1 a2 len2 cap2 z2 a3 (word_low w1) (word_of w1) W w0 w2).mono fun e W' ⟨he, bel⟩ => ?_
  subst he
  exact ⟨_, rfl, _, _, _, [], _, [], hW', trodAll_mk1 (shut_bool Try.underlying4 _), (trodAll_cons_mk (Below.trod meanTells_laidOut (by kernel_rfl) (of_decide_eq_true (by kernel_rfl)) k0 bel lt0) (trodAll_cons_mk (shut_int Try.underlying3 w1) (trodAll_cons_mk (Below.trod meanTells_laidOut (by kernel_rfl) (of_decide_eq_true (by kernel_rfl)) k2 bel lt2) (trodAll_cons_mk (shut_int Try.underlying3 w3) trodAll_mk0)))), rfl, bel.frame _, fun h => by cases h⟩

/-- THE STATEMENT. -/
theorem meanTells_holds : Rows.MeanTellsSaid :=
  OpenClaim.holds_of_wide 3 Try.f3 rfl rfl rfl rfl rfl rfl rfl ⟨rfl, rfl, rfl, rfl, rfl⟩ rfl rfl rfl rfl rfl (by kernel_rfl) Try.func3 (by kernel_rfl)
    (of_decide_eq_true (by kernel_rfl)) (by unfold Func.isWrapper; first | (rw [if_pos (by decide +kernel)]; kernel_rfl) | (rw [if_neg (by decide +kernel)]; exact ⟨rfl, rfl⟩))
    (fun os started H enc _ => meanTells_lifted os started H enc)
#print axioms meanTells_holds
end Go.Proofs.Ytchbjokcnpcgcaa
