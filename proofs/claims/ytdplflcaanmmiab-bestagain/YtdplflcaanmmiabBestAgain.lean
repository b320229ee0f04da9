/-
  BestAgain: what best means, parsed by best anew, is the same tokens; no tokens that mean it are fewer, or cost less. For every list of texts, every list of numbers.
  No condition: whatever the input, in whatever memory; the arguments read as before.
-/
import Derived.Test.YtdplflcaanmmiabAlive15
import Derived.Test.YtdplflcaanmmiabRefMeanAll
import Derived.BigQuiet
import Derived.ChangeOld
import Derived.SizedLaws
namespace Go.Proofs.Ytdplflcaanmmiab
open Go.ChangeShapes Go.WideShapes Go.ChangeAt Go.RowKit

theorem sayT_byte {L : List ByteArray} (t : Nat) : ∀ c ∈ sayT (L.map nums) t, c < 256 := by
  intro c hc
  unfold sayT at hc
  split at hc
  · rw [List.mem_singleton] at hc; omega
  · by_cases hk : t - 256 < L.length
    · rw [List.getD_eq_getElem?_getD, List.getElem?_eq_getElem (by rw [List.length_map]; exact hk), Option.getD_some, List.getElem_map] at hc
      exact nums_byte _ c hc
    · rw [List.getD_eq_getElem?_getD, List.getElem?_eq_none (by rw [List.length_map]; omega)] at hc
      cases hc

theorem meanT_byte {L : List ByteArray} (ts : List Nat) : ∀ c ∈ meanT (L.map nums) ts, c < 256 := by
  intro c hc
  obtain ⟨t, _, ht⟩ := List.mem_flatMap.1 hc
  exact sayT_byte t c ht

theorem ints_toNat {P : List (List Nat)} {zs : List Int} (h : ∀ x ∈ zs, isI P x) : ints (zs.map Int.toNat) = zs := by
  unfold ints
  rw [List.map_map]
  conv => rhs; rw [← List.map_id zs]
  refine List.map_congr_left (fun x hx => ?_)
  have := (h x hx).1
  simp only [Function.comp, id]
  omega

theorem toNat_ints (us : List Nat) : (ints us).map Int.toNat = us := by
  unfold ints
  rw [List.map_map]
  conv => rhs; rw [← List.map_id us]
  exact List.map_congr_left (fun x _ => by simp)

/-- All that is asked of tokens that mean something. -/
theorem again_math {L : List ByteArray} (hL : Fine L) {zs : List Int} (hl : zs.length ≤ 60) (he : (meanR (L.map nums) 400 [] zs).2 = 0) :
    ∃ b : ByteArray, bytesOf (meanR (L.map nums) 400 [] zs).1 = b ∧ b.size ≤ 400 ∧ (bW L 1024 (nums b)).length ≤ zs.length ∧ meanR (L.map nums) 400 [] (ints (bW L 1024 (nums b))) = (nums b, 0) ∧ tks zs ≤ 1000 ∧ bts zs ≤ 40000 ∧ tks (ints (bW L 1024 (nums b))) ≤ 1000 ∧ bts (ints (bW L 1024 (nums b))) ≤ 40000 ∧ ¬ lt2 (tks zs, bts zs) (tks (ints (bW L 1024 (nums b))), bts (ints (bW L 1024 (nums b)))) := by
  obtain ⟨h1, h2, h3⟩ := meanR_ok (L.map nums) 400 zs [] he
  rw [List.nil_append] at h2
  have hl100 : L.length ≤ 100 := hL.1
  have hzt := ints_toNat h1
  obtain ⟨ts, hts⟩ : ∃ ts, ts = zs.map Int.toNat := ⟨_, rfl⟩
  rw [← hts] at h2 hzt
  have hisT : ∀ t ∈ ts, isT (L.map nums) t := by
    intro t ht
    rw [hts] at ht
    obtain ⟨x, hx, rfl⟩ := List.mem_map.1 ht
    have := h1 x hx
    unfold isI at this
    unfold isT
    omega
  have hsz : (meanT (L.map nums) ts).length ≤ 400 := by
    by_cases h0 : zs = []
    · rw [hts, h0]; simp [meanT]
    · have := h3 h0
      rwa [h2] at this
  have hnb : nums (bytesOf (meanT (L.map nums) ts)) = meanT (L.map nums) ts := nums_bytesOf _ (meanT_byte ts)
  refine ⟨bytesOf (meanT (L.map nums) ts), by rw [h2], ?_⟩
  have hbs : (bytesOf (meanT (L.map nums) ts)).size ≤ 400 := by rw [← nums_length, hnb]; exact hsz
  rw [hnb]
  have hT : Txt (meanT (L.map nums) ts) := ⟨meanT_byte ts, by omega⟩
  have hone : bW L 1024 (meanT (L.map nums) ts) = bA L (meanT (L.map nums) ts) := bW_one (by omega) (by omega)
  obtain ⟨hle, hlen⟩ := bestT_least (L.map nums) 40 (phrases_short hL) bB bigN (fine_nodup hL) (fine_some hL) ts hisT hT.1 hT.big
  obtain ⟨hm1, hm2⟩ := bW_means hL (n := 1024) (by omega) hT
  rw [show bestT (L.map nums) 40 bB bigN (meanT (L.map nums) ts) = bW L 1024 (meanT (L.map nums) ts) from hone.symm] at hle hlen
  obtain ⟨us, hus⟩ : ∃ us, us = bW L 1024 (meanT (L.map nums) ts) := ⟨_, rfl⟩
  rw [← hus] at hm1 hm2 hle hlen ⊢
  have htl : ts.length = zs.length := by rw [hts, List.length_map]
  have hs1 := sum_ints (fun t ht => isT_small hl100 (hisT t ht))
  have hs2 := sum_ints (fun t ht => isT_small hl100 (hm2 t ht))
  rw [hzt] at hs1
  have z1 := tks_le zs
  have z2 := bts_le zs
  have z3 := tks_le (ints us)
  have z4 := bts_le (ints us)
  rw [ints_length] at z3 z4
  refine ⟨hbs, by omega, ?_, by omega, by omega, by omega, by omega, ?_⟩
  · have h4 := meanR_fits (L.map nums) 400 (ints us) [] (fun x hx => by
      unfold ints at hx
      obtain ⟨t, ht, rfl⟩ := List.mem_map.1 hx
      have := hm2 t ht
      unfold isT at this
      unfold isI
      omega) (by rw [toNat_ints, hm1]; simpa using hsz)
    rw [toNat_ints, hm1, List.nil_append] at h4
    exact h4
  · rw [hs1, hs2]
    exact not_lt_of_le2 hle

set_option maxRecDepth 20000 in
set_option maxHeartbeats 8000000 in
theorem again_walk (v : Value) (L : List ByteArray) (a : Option Addr) (len cap : Nat) (z : Nat → Int) (w : World) (h : ListIn w v L) (hin : IsInts w a len z) :
    Calls Try.prog 3 #[v, .slice a len cap] w fun e w' => e = .returned (.bool true) ∧ Below w.heap.size w w' := by
  have H := hid h
  clear h
  by_cases hfits : Fits L (⟨#[]⟩)
  · obtain ⟨_, h400, hF⟩ := id hfits
    have HF := hid hF
    have hl100 := hF.1
    have HFits := hid hfits
    clear hF hfits
    by_cases h60 : len ≤ 60
    ·
      have hd6 : decide ((60 : Int) < (len : Int)) = false := decide_eq_false (by omega)
      have hd62 : decide (60 < len) = false := decide_eq_false (by omega)
      have hl1 : L.length ≤ 1000 := by omega
      have H40 : Hid (∀ s ∈ L, s.size ≤ 40) := fun s hs => (((fine_iff L).1 HF.out).2.1 s hs).2
      obtain ⟨zs, hzs⟩ : ∃ zs, zs = (List.range len).map z := ⟨_, rfl⟩
      have hzl : zs.length = len := by rw [hzs]; simp
      have HR := hid (isInts_reads (cap := cap) hin)
      rw [← hzs] at HR
      have hz60 : zs.length ≤ 60 := by omega
      have HZL : Hid (zs.length ≤ 100000) := by show _ ≤ _; omega
      have HZL2 : Hid (zs.length ≤ 1000000) := by show _ ≤ _; omega
      obtain ⟨E, hE⟩ : ∃ E, E = (meanR (L.map nums) 400 [] zs).2 := ⟨_, rfl⟩
      have HM400 : Hid ((Value.tuple #[.string (bytesOf (meanR (L.map nums) (max (400 : Int) 0).toNat [] zs).1), .int .i64 ((meanR (L.map nums) (max (400 : Int) 0).toNat [] zs).2 : Int)]) = .tuple #[.string (bytesOf (meanR (L.map nums) 400 [] zs).1), .int .i64 (E : Int)]) := by
        show _ = _
        rw [show (max (400 : Int) 0).toNat = 400 by decide, ← hE]
      clear hin hzs
      by_cases he : E = 0
      ·
        obtain ⟨b, hb, hbs, hlen, hmu, t1, t2, t3, t4, hlt⟩ := again_math HF.out hz60 (by rw [← hE]; exact he)
        obtain ⟨us, hus⟩ : ∃ us, us = bW L 1024 (nums b) := ⟨_, rfl⟩
        rw [← hus] at hlen hmu t3 t4 hlt
        obtain ⟨q, hq⟩ : ∃ q, q = us.length := ⟨_, rfl⟩
        rw [← hq, hzl] at hlen
        have HUS := hid hus
        have HQ := hid hq
        obtain ⟨x1, hx1⟩ : ∃ x, x = tks zs := ⟨_, rfl⟩
        obtain ⟨y1, hy1⟩ : ∃ x, x = bts zs := ⟨_, rfl⟩
        obtain ⟨x2, hx2⟩ : ∃ x, x = tks (ints us) := ⟨_, rfl⟩
        obtain ⟨y2, hy2⟩ : ∃ x, x = bts (ints us) := ⟨_, rfl⟩
        rw [← hx1, ← hy1, ← hx2, ← hy2] at hlt
        rw [← hx1] at t1
        rw [← hy1] at t2
        rw [← hx2] at t3
        rw [← hy2] at t4
        have HX1 := hid (And.intro hx1 hy1)
        have HX2 := hid (And.intro hx2 hy2)
        have HLE : Hid (decide (x1 < x2 ∨ x1 = x2 ∧ y1 < y2) = false) := decide_eq_false hlt
        rw [hb] at HM400
        subst he
        have HUL : Hid ((ints us).length ≤ 100000) := by show _ ≤ _; rw [ints_length, ← HQ.out]; omega
        have HUL2 : Hid ((ints us).length ≤ 1000000) := by show _ ≤ _; rw [ints_length, ← HQ.out]; omega
        have HM400u : Hid ((Value.tuple #[.string (bytesOf (meanR (L.map nums) (max (400 : Int) 0).toNat [] (ints us)).1), .int .i64 ((meanR (L.map nums) (max (400 : Int) 0).toNat [] (ints us)).2 : Int)]) = .tuple #[.string b, .int .i64 0]) := by
          show _ = _
          rw [show (max (400 : Int) 0).toNat = 400 by decide, hmu, bytesOf_nums]
          rfl
        have hdq : decide ((q : Int) ≤ (len : Int)) = true := decide_eq_true (by omega)
        have hbb : (b.toList == b.toList) = true := text_eq rfl
        have h00 : ((0 : Int) != 0) = false := by decide
        clear hb hmu hus hq hx1 hx2 hy1 hy2 hlt hE
        go_enter Try.func3, Try.ntmps3
        go_wp2_with (first
          | (go_at_call 5; refine (dict_fits H.out HFits.out).mono ?_; rintro e w1 ⟨p, rfl, hd1, hb1⟩; have HD1 := hid hd1; have H1 := hid (H.out.below hb1); have HB1 := hid hb1; have HR1 := hid (HR.out.below hb1); clear hd1 hb1)
          | (go_at_call 6; refine (alive_15 _).mono ?_; rintro e w2 ⟨rfl, hb2⟩; have H2 := hid (H1.out.below hb2); have HD2 := hid (HD1.out.below hb2); have HB2 := hid (HB1.out.trans (hb2.mono HB1.out.size)); have HR2 := hid (HR1.out.below hb2); clear hb2)
          | (have _h := HP4; go_at_call 7; refine (meanAll_any H4.out.1 hl1 H40.out HP4.out HUL.out 400).mono ?_; rintro e w5 ⟨rfl, hb5⟩; rw [HM400u.out]; have HP5 := hid (HP4.out.below hb5); have HD5 := hid (HD4.out.below hb5); have HR5 := hid (HR4.out.below hb5); have HB5 := hid (below_more HB4.out hb5); clear hb5)
          | (go_at_call 7; refine (meanAll_any H2.out.1 hl1 H40.out HR2.out HZL.out 400).mono ?_; rintro e w3 ⟨rfl, hb3⟩; rw [HM400.out]; have H3 := hid (H2.out.below hb3); have HD3 := hid (HD2.out.below hb3); have HR3 := hid (HR2.out.below hb3); have HB3 := hid (below_more HB2.out hb3); clear hb3)
          | (have _h := HK8; go_at_call 8; refine (parseB_any HD5.out HF.out b (by omega) 1024 (by omega) (by omega)).mono ?_; rintro e w9 ⟨v9, rfl, ho9, hb9⟩; rw [← HUS.out] at ho9; have HQ9 := hid (ownsRow_reads ho9); have HP9 := hid (HP5.out.below hb9); have HB9 := hid (below_more HB5.out hb9); clear ho9 hb9)
          | (go_at_call 8; refine (parseB_any HD3.out HF.out b (by omega) 1024 (by omega) (by omega)).mono ?_; rintro e w4 ⟨v4, rfl, ho4, hb4⟩; rw [← HUS.out, ints_length, ← HQ.out] at ho4; obtain ⟨a4, c4, rfl⟩ := ownsRow_slice ho4; have HP4 := hid (ownsRow_reads ho4); have H4 := hid (H3.out.below hb4); have HD4 := hid (HD3.out.below hb4); have HR4 := hid (HR3.out.below hb4); have HB4 := hid (below_more HB3.out hb4); clear ho4 hb4)
          | (have _h := HK6; go_at_call 10; refine (sum_any HP5.out HUL2.out).mono ?_; rintro e w7 ⟨rfl, rfl⟩; rw [← HX2.out.1, ← HX2.out.2])
          | (go_at_call 10; refine (sum_any HR5.out HZL2.out).mono ?_; rintro e w6 ⟨rfl, rfl⟩; rw [← HX1.out.1, ← HX1.out.2]; have HK6 := hid True.intro)
          | (go_at_call 9; refine (less_in x1 y1 x2 y2 (by omega) (by omega) (by omega) (by omega) _).mono ?_; rintro e w8 ⟨rfl, rfl⟩; rw [HLE.out]; have HK8 := hid True.intro)
          | (go_at_call 11; refine (sameInts_any (xs := ints us) (ys := ints us) HQ9.out HP9.out HUL2.out HUL2.out).mono ?_; rintro e w10 ⟨rfl, hb10⟩; rw [decide_eq_true rfl]; have HB10 := hid (below_more HB9.out hb10); clear hb10))
        go_ret
        exact ⟨by simp, HB10.out⟩
      ·
        have hne : ((E : Int) != 0) = true := by simp [bne, he]
        go_enter Try.func3, Try.ntmps3
        go_wp2_with (first
          | (go_at_call 5; refine (dict_fits H.out HFits.out).mono ?_; rintro e w1 ⟨p, rfl, hd1, hb1⟩; have HD1 := hid hd1; have H1 := hid (H.out.below hb1); have HB1 := hid hb1; have HR1 := hid (HR.out.below hb1); clear hd1 hb1)
          | (go_at_call 6; refine (alive_15 _).mono ?_; rintro e w2 ⟨rfl, hb2⟩; have H2 := hid (H1.out.below hb2); have HD2 := hid (HD1.out.below hb2); have HB2 := hid (HB1.out.trans (hb2.mono HB1.out.size)); have HR2 := hid (HR1.out.below hb2); clear hb2)
          | (go_at_call 7; refine (meanAll_any H2.out.1 hl1 H40.out HR2.out HZL.out 400).mono ?_; rintro e w3 ⟨rfl, hb3⟩; rw [HM400.out]; have H3 := hid (H2.out.below hb3); have HD3 := hid (HD2.out.below hb3); have HR3 := hid (HR2.out.below hb3); have HB3 := hid (below_more HB2.out hb3); clear hb3))
        go_ret
        exact ⟨rfl, HB3.out⟩
    ·
      have hd6 : decide ((60 : Int) < (len : Int)) = true := decide_eq_true (by omega)
      have hd62 : decide (60 < len) = true := decide_eq_true (by omega)
      go_enter Try.func3, Try.ntmps3
      go_wp2_with (first
        | (go_at_call 5; refine (dict_fits H.out HFits.out).mono ?_; rintro e w1 ⟨p, rfl, hd1, hb1⟩; have HD1 := hid hd1; have H1 := hid (H.out.below hb1); have HB1 := hid hb1; clear hd1 hb1)
        | (go_at_call 6; refine (alive_15 _).mono ?_; rintro e w2 ⟨rfl, hb2⟩))
      go_ret
      exact ⟨rfl, below_more HB1.out hb2⟩
  · have HFits := hid hfits
    clear hfits
    go_enter Try.func3, Try.ntmps3
    go_wp2_with (first
      | (go_at_call 5; refine (dict_no H.out HFits.out).mono ?_; rintro e w1 ⟨rfl, rfl⟩)
      | (go_at_call 6; refine (alive_15 _).mono ?_; rintro e w2 ⟨rfl, hb2⟩))
    go_ret
    exact ⟨rfl, hb2⟩

set_option linter.unusedVariables false
theorem bestAgain_own : ownKnob Try.prog.godebug = none := by kernel_rfl

theorem bestAgain_laidOut : laidOutB Try.prog = true := by kernel_rfl

set_option maxRecDepth 100000 in
theorem bestAgain_lifted (os : Os) (started : os.Started) (H : Type) (enc : TypeId × Value → H) :
    ReturnsInHanded {} Try.checked os 3 .any (Rows.bestAgainSpec.pre6 enc Try.prog Try.f3 Rows.bestAgainRow.domain false) (Rows.bestAgainSpec.post enc Try.prog Try.f3 false true false false) := by
  refine returnsInHanded_of_change_sized (C := Try.checked) bestAgain_own started (by kernel_rfl) Try.func3
    (ChangeSpec.witness6 (enc := enc) (C := Try.checked) false ⟨#[], #[.slice none 0 0, .slice none 0 0], []⟩ 8 (by kernel_rfl) (by kernel_rfl) (by kernel_rfl) (by kernel_rfl)) ?_
  intro W base args ds gs before hval0 hW hcnd hsz0 _
  have hsz : (DataW.weightsEach Try.prog (Try.f3.params.toList ++ Rows.bestAgainSpec.plain.varTypes Try.prog) (ds ++ gs)).all (· ≤ reachBytes) = true := hsz0
  have hval : ∀ (j : Nat) t v, Try.f3.params[j]? = some t → args[j]? = some v → Value.okWide Try.prog W .any base t v := hval0
  have hW' := hW
  obtain ⟨p, q, hA0, hV, rfl, hfz, hnd⟩ := hW
  have hA : DataW.TrodAll enc Try.prog W 0 (fun _ => true) true Try.f3.params.toList args.toList ds p := hA0
  rw [Try.params3] at hA hval hsz
  obtain ⟨v0, vs0, d0, ds0, p0, q0, hargs, rfl, rfl, h0, r0⟩ := trodAll_cons hA
  obtain ⟨v1, vs1, d1, ds1, p1, q1, rfl, rfl, rfl, h1, r1⟩ := trodAll_cons r0
  obtain ⟨rfl, rfl, rfl⟩ := trodAll_nil r1
  obtain rfl : args = #[v0, v1] := by cases args; simp_all
  obtain ⟨rfl, rfl⟩ := trodVars_none hV
  obtain ⟨a0, len0, cap0, rfl⟩ := okWide_slice Try.underlying22 (hval 0 22 v0 rfl rfl)
  have k0 := h0
  have lt0 : ∀ x ∈ p0, x.block < W.heap.size := by obtain ⟨m, hm⟩ := k0; exact DataW.trod_lt m _ _ _ hm
  obtain ⟨z0, w0⟩ := h0.elim (fun _ hf => open_list hf hsz 0 rfl rfl)
  obtain ⟨a1, len1, cap1, rfl⟩ := okWide_slice Try.underlying23 (hval 1 23 v1 rfl rfl)
  have k1 := h1
  have lt1 : ∀ x ∈ p1, x.block < W.heap.size := by obtain ⟨m, hm⟩ := k1; exact DataW.trod_lt m _ _ _ hm
  obtain ⟨z1, w1⟩ := h1.elim (fun _ hf => open_numbers hf)
  clear hA0 hval0
  refine (again_walk _ z0 a1 len1 cap1 z1 W w0 w1).mono fun e W' ⟨he, bel⟩ => ?_
  subst he
  exact ⟨_, rfl, _, _, _, [], _, [], hW', trodAll_mk1 (shut_bool Try.underlying4 _), (trodAll_cons_mk (Below.trod bestAgain_laidOut (by kernel_rfl) (of_decide_eq_true (by kernel_rfl)) k0 bel lt0) (trodAll_cons_mk (Below.trod bestAgain_laidOut (by kernel_rfl) (of_decide_eq_true (by kernel_rfl)) k1 bel lt1) trodAll_mk0)), rfl, bel.frame _, fun h => by cases h⟩

/-- THE STATEMENT. -/
theorem bestAgain_holds : Rows.BestAgainSaid :=
  OpenClaim.holds_of_wide 3 Try.f3 rfl rfl rfl rfl rfl rfl rfl ⟨rfl, rfl, rfl, rfl, rfl⟩ rfl rfl rfl rfl rfl (by kernel_rfl) Try.func3 (by kernel_rfl)
    (of_decide_eq_true (by kernel_rfl)) (by unfold Func.isWrapper; first | (rw [if_pos (by decide +kernel)]; kernel_rfl) | (rw [if_neg (by decide +kernel)]; exact ⟨rfl, rfl⟩))
    (fun os started H enc _ => bestAgain_lifted os started H enc)
#print axioms bestAgain_holds
end Go.Proofs.Ytdplflcaanmmiab
