/-
  BestWindows: a greater window, of which the lesser one is a part, never takes more tokens, and never costs more. For every list of texts, every bytes, every window and how many times.
  No condition: whatever the input, in whatever memory; the arguments read as before.
-/
import Derived.Test.YtdplflcaanmmiaaAlive15
import Derived.BigQuiet
import Derived.ShutString
import Derived.ChangeOld
import Derived.SizedLaws
namespace Go.Proofs.Ytdplflcaanmmiaa
open Go.ChangeShapes Go.WideShapes Go.ChangeAt Go.RowKit
open Go.ChangeMaps (open_string shut_string)

set_option maxRecDepth 20000 in
set_option maxHeartbeats 8000000 in
theorem windows_walk (v : Value) (L : List ByteArray) (b : ByteArray) (win tms : Int) (w : World) (h : ListIn w v L) :
    Calls Try.prog 4 #[v, .string b, .int .i64 win, .int .i64 tms] w fun e w' => e = .returned (.bool true) ∧ Below w.heap.size w w' := by
  have H := hid h
  clear h
  by_cases hfits : Fits L (b)
  · obtain ⟨_, h400, hF⟩ := id hfits
    have HF := hid hF
    have hl100 := hF.1
    have HFits := hid hfits
    clear hF hfits
    by_cases h1 : win < 1
    ·
      have e1 : decide (win < 1) = true := decide_eq_true h1
      go_enter Try.func4, Try.ntmps4
      go_wp2_with (first
        | (go_at_call 7; refine (dict_fits H.out HFits.out).mono ?_; rintro e w1 ⟨p, rfl, hd1, hb1⟩; have HD1 := hid hd1; have H1 := hid (H.out.below hb1); have HB1 := hid hb1; clear hd1 hb1)
        | (go_at_call 8; refine (alive_15 _).mono ?_; rintro e w2 ⟨rfl, hb2⟩))
      go_ret
      exact ⟨rfl, below_more HB1.out hb2⟩
    · by_cases h2 : tms < 1
      ·
        have e1 : decide (win < 1) = false := decide_eq_false h1
        have e2 : decide (tms < 1) = true := decide_eq_true h2
        go_enter Try.func4, Try.ntmps4
        go_wp2_with (first
          | (go_at_call 7; refine (dict_fits H.out HFits.out).mono ?_; rintro e w1 ⟨p, rfl, hd1, hb1⟩; have HD1 := hid hd1; have H1 := hid (H.out.below hb1); have HB1 := hid hb1; clear hd1 hb1)
          | (go_at_call 8; refine (alive_15 _).mono ?_; rintro e w2 ⟨rfl, hb2⟩))
        go_ret
        exact ⟨rfl, below_more HB1.out hb2⟩
      · by_cases h3 : 1024 < win
        ·
          have e1 : decide (win < 1) = false := decide_eq_false h1
          have e2 : decide (tms < 1) = false := decide_eq_false h2
          have e3 : decide (1024 < win) = true := decide_eq_true h3
          go_enter Try.func4, Try.ntmps4
          go_wp2_with (first
            | (go_at_call 7; refine (dict_fits H.out HFits.out).mono ?_; rintro e w1 ⟨p, rfl, hd1, hb1⟩; have HD1 := hid hd1; have H1 := hid (H.out.below hb1); have HB1 := hid hb1; clear hd1 hb1)
            | (go_at_call 8; refine (alive_15 _).mono ?_; rintro e w2 ⟨rfl, hb2⟩))
          go_ret
          exact ⟨rfl, below_more HB1.out hb2⟩
        · by_cases h4 : 1024 < tms
          ·
            have e1 : decide (win < 1) = false := decide_eq_false h1
            have e2 : decide (tms < 1) = false := decide_eq_false h2
            have e3 : decide (1024 < win) = false := decide_eq_false h3
            have e4 : decide (1024 < tms) = true := decide_eq_true h4
            go_enter Try.func4, Try.ntmps4
            go_wp2_with (first
              | (go_at_call 7; refine (dict_fits H.out HFits.out).mono ?_; rintro e w1 ⟨p, rfl, hd1, hb1⟩; have HD1 := hid hd1; have H1 := hid (H.out.below hb1); have HB1 := hid hb1; clear hd1 hb1)
              | (go_at_call 8; refine (alive_15 _).mono ?_; rintro e w2 ⟨rfl, hb2⟩))
            go_ret
            exact ⟨rfl, below_more HB1.out hb2⟩
          · have hpl : win * tms ≤ 1024 * 1024 := Int.mul_le_mul (by omega) (by omega) (by omega) (by omega)
            have hpg : 0 ≤ win * tms := Int.mul_nonneg (by omega) (by omega)
            by_cases h5 : 1024 < win * tms
            ·
              have e1 : decide (win < 1) = false := decide_eq_false h1
              have e2 : decide (tms < 1) = false := decide_eq_false h2
              have e3 : decide (1024 < win) = false := decide_eq_false h3
              have e4 : decide (1024 < tms) = false := decide_eq_false h4
              obtain ⟨pr, hpr⟩ : ∃ pr, pr = win * tms := ⟨_, rfl⟩
              rw [← hpr] at h5 hpl hpg
              have hpr2 : win * tms = pr := hpr.symm
              clear hpr
              have e5 : decide (1024 < pr) = true := decide_eq_true h5
              go_enter Try.func4, Try.ntmps4
              go_wp2_with (first
                | (go_at_call 7; refine (dict_fits H.out HFits.out).mono ?_; rintro e w1 ⟨p, rfl, hd1, hb1⟩; have HD1 := hid hd1; have H1 := hid (H.out.below hb1); have HB1 := hid hb1; clear hd1 hb1)
                | (go_at_call 8; refine (alive_15 _).mono ?_; rintro e w2 ⟨rfl, hb2⟩))
              go_ret
              exact ⟨rfl, below_more HB1.out hb2⟩
            ·
              obtain ⟨n, rfl⟩ : ∃ n : Nat, win = (n : Int) := ⟨win.toNat, by omega⟩
              obtain ⟨m, rfl⟩ : ∃ m : Nat, tms = (m : Int) := ⟨tms.toNat, by omega⟩
              have hk0 : n * m ≤ 1024 * 1024 := Nat.mul_le_mul (by omega) (by omega)
              obtain ⟨k, hk⟩ : ∃ k, k = n * m := ⟨_, rfl⟩
              have hkz : (n : Int) * (m : Int) = (k : Int) := by rw [hk]; exact (Int.natCast_mul n m).symm
              rw [hkz] at h5
              have hn1 : 1 ≤ n := by omega
              have hn2 : n ≤ 1024 := by omega
              have hk1 : 1 ≤ k := by rw [hk]; exact Nat.mul_pos (by omega) (by omega)
              have hk2 : k ≤ 1024 := by omega
              have e1 : decide ((n : Int) < 1) = false := decide_eq_false (by omega)
              have e2 : decide ((m : Int) < 1) = false := decide_eq_false (by omega)
              have e3 : decide ((1024 : Int) < (n : Int)) = false := decide_eq_false (by omega)
              have e4 : decide ((1024 : Int) < (m : Int)) = false := decide_eq_false (by omega)
              have e5 : decide ((1024 : Int) < (k : Int)) = false := decide_eq_false (by omega)
              obtain ⟨ts, hts⟩ : ∃ ts, ts = bW L n (nums b) := ⟨_, rfl⟩
              obtain ⟨us, hus⟩ : ∃ us, us = bW L k (nums b) := ⟨_, rfl⟩
              obtain ⟨q, hq⟩ : ∃ q, q = ts.length := ⟨_, rfl⟩
              obtain ⟨q2, hq2⟩ : ∃ q2, q2 = us.length := ⟨_, rfl⟩
              have hT := txt_nums b (by omega)
              have HQL1 : Hid (ts.length ≤ 100000) := by show _ ≤ _; rw [hts]; have := bW_few HF.out (n := n) (by omega) hT; rw [nums_length] at this; omega
              have HQL2 : Hid (us.length ≤ 100000) := by show _ ≤ _; rw [hus]; have := bW_few HF.out (n := k) (by omega) hT; rw [nums_length] at this; omega
              have hM1 := bW_means HF.out (n := n) (by omega) hT
              have hM2 := bW_means HF.out (n := k) (by omega) hT
              have hle := winT_greater (L.map nums) 40 (phrases_short HF.out) bB bigN (fine_nodup HF.out) (fine_some HF.out) n m (by omega) (by omega) (nums b) hT.1 hT.big
              rw [← hk] at hle
              have hle2 : le2 (sumT bB us) (sumT bB ts) := by rw [hus, hts]; exact hle
              rw [← hts] at hM1
              rw [← hus] at hM2
              have HM1 := hid hM1.1
              have HT1 := hid hM1.2
              have HM2 := hid hM2.1
              have HT2 := hid hM2.2
              have hu1 := sum_ints (fun t ht => isT_small hl100 (hM1.2 t ht))
              have hu2 := sum_ints (fun t ht => isT_small hl100 (hM2.2 t ht))
              rw [← hu1, ← hu2] at hle2
              have hz1 := tks_le (ints ts)
              have hz2 := tks_le (ints us)
              have hz3 := bts_le (ints ts)
              have hz4 := bts_le (ints us)
              rw [ints_length] at hz1 hz2 hz3 hz4
              have hqq : q2 ≤ q := by
                rw [tks_ints (fun t ht => isT_small hl100 (hM1.2 t ht)), tks_ints (fun t ht => isT_small hl100 (hM2.2 t ht))] at hle2
                unfold le2 at hle2
                simp only at hle2
                omega
              obtain ⟨x1, hx1⟩ : ∃ x, x = tks (ints ts) := ⟨_, rfl⟩
              obtain ⟨y1, hy1⟩ : ∃ x, x = bts (ints ts) := ⟨_, rfl⟩
              obtain ⟨x2, hx2⟩ : ∃ x, x = tks (ints us) := ⟨_, rfl⟩
              obtain ⟨y2, hy2⟩ : ∃ x, x = bts (ints us) := ⟨_, rfl⟩
              have HU1 := hid (And.intro hx1 hy1)
              have HU2 := hid (And.intro hx2 hy2)
              rw [← hx1, ← hy1, ← hx2, ← hy2] at hle2
              rw [← hx1] at hz1
              rw [← hx2] at hz2
              rw [← hy1] at hz3
              rw [← hy2] at hz4
              have HLE : Hid (decide (x1 < x2 ∨ x1 = x2 ∧ y1 < y2) = false) := decide_eq_false (not_lt_of_le2 hle2)
              have HIL1 : Hid ((ints ts).length ≤ 1000000) := by show _ ≤ _; rw [ints_length]; have := HQL1.out; omega
              have HIL2 : Hid ((ints us).length ≤ 1000000) := by show _ ≤ _; rw [ints_length]; have := HQL2.out; omega
              have HX := hid hts
              have HX2 := hid hus
              have HQ := hid hq
              have HQ2 := hid hq2
              have hq1 : q ≤ 100000 := by have := HQL1.out; omega
              have hdq : decide ((q2 : Int) ≤ (q : Int)) = true := decide_eq_true (by omega)
              have hs1 : x1 ≤ 1000000 := by have := HQL1.out; omega
              have hs2 : x2 ≤ 1000000 := by have := HQL2.out; omega
              have hs3 : y1 ≤ 100000000 := by have := HQL1.out; omega
              have hs4 : y2 ≤ 100000000 := by have := HQL2.out; omega
              clear hts hus hq hq2 hM1 hM2 hle hle2 hu1 hu2 hz1 hz2 hz3 hz4 hx1 hx2 hy1 hy2 hk hk0 h1 h2 h3 h4 h5 hT
              go_enter Try.func4, Try.ntmps4
              go_wp2_with (first
                | (go_at_call 7; refine (dict_fits H.out HFits.out).mono ?_; rintro e w1 ⟨p, rfl, hd1, hb1⟩; have HD1 := hid hd1; have H1 := hid (H.out.below hb1); have HB1 := hid hb1; clear hd1 hb1)
                | (go_at_call 8; refine (alive_15 _).mono ?_; rintro e w2 ⟨rfl, hb2⟩; have H2 := hid (H1.out.below hb2); have HD2 := hid (HD1.out.below hb2); have HB2 := hid (HB1.out.trans (hb2.mono HB1.out.size)); clear hb2)
                | (have _h := HO3; go_at_call 14; refine (parseB_any HD3.out HF.out b (by omega) k (by omega) (by omega)).mono ?_; rintro e w4 ⟨v4, rfl, ho4, hb4⟩; rw [← HX2.out, ints_length, ← HQ2.out] at ho4; obtain ⟨a4, c4, rfl⟩ := ownsRow_slice ho4; have HR4 := hid (ownsRow_reads ho4); have HR34 := hid ((ownsRow_reads HO3.out).below hb4); have H4 := hid (H3.out.below hb4); have HB4 := hid (HB3.out.trans (hb4.mono HB3.out.size)); clear ho4 hb4)
                | (go_at_call 14; refine (parseB_any HD2.out HF.out b (by omega) n (by omega) (by omega)).mono ?_; rintro e w3 ⟨v3, rfl, ho3, hb3⟩; rw [← HX.out, ints_length, ← HQ.out] at ho3; obtain ⟨a3, c3, rfl⟩ := ownsRow_slice ho3; have HO3 := hid ho3; have HD3 := hid (HD2.out.below hb3); have H3 := hid (H2.out.below hb3); have HB3 := hid (HB2.out.trans (hb3.mono HB2.out.size)); clear ho3 hb3)
                | (have _h := HR54; go_at_call 15; refine (says_any H5.out.1 (by omega) HR54.out HQL2.out HT2.out b (by omega) HM2.out).mono ?_; rintro e w6 ⟨rfl, hb6⟩; have HR63 := hid (HR53.out.below hb6); have HR64 := hid (HR54.out.below hb6); have HB6 := hid (HB5.out.trans (hb6.mono HB5.out.size)); clear hb6)
                | (have _h := HR4; go_at_call 15; refine (says_any H4.out.1 (by omega) HR34.out HQL1.out HT1.out b (by omega) HM1.out).mono ?_; rintro e w5 ⟨rfl, hb5⟩; have HR53 := hid (HR34.out.below hb5); have HR54 := hid (HR4.out.below hb5); have H5 := hid (H4.out.below hb5); have HB5 := hid (HB4.out.trans (hb5.mono HB4.out.size)); clear hb5)
                | (have _h := HK7; go_at_call 16; refine (sum_any HR64.out HIL2.out).mono ?_; rintro e w8 ⟨rfl, rfl⟩; rw [← HU2.out.1, ← HU2.out.2])
                | (have _h := HR64; go_at_call 16; refine (sum_any HR63.out HIL1.out).mono ?_; rintro e w7 ⟨rfl, rfl⟩; rw [← HU1.out.1, ← HU1.out.2]; have HK7 := hid True.intro)
                | (go_at_call 13; refine (less_in x1 y1 x2 y2 (by omega) (by omega) (by omega) (by omega) _).mono ?_; rintro e w9 ⟨rfl, rfl⟩; rw [HLE.out]))
              go_ret
              exact ⟨by simp, HB6.out⟩
  · have HFits := hid hfits
    clear hfits
    go_enter Try.func4, Try.ntmps4
    go_wp2_with (first
      | (go_at_call 7; refine (dict_no H.out HFits.out).mono ?_; rintro e w1 ⟨rfl, rfl⟩)
      | (go_at_call 8; refine (alive_15 _).mono ?_; rintro e w2 ⟨rfl, hb2⟩))
    go_ret
    exact ⟨rfl, hb2⟩

set_option linter.unusedVariables false
theorem bestWindows_own : ownKnob Try.prog.godebug = none := by kernel_rfl

theorem bestWindows_laidOut : laidOutB Try.prog = true := by kernel_rfl

set_option maxRecDepth 100000 in
theorem bestWindows_lifted (os : Os) (started : os.Started) (H : Type) (enc : TypeId × Value → H) :
    ReturnsInHanded {} Try.checked os 4 .any (Rows.bestWindowsSpec.pre6 enc Try.prog Try.f4 Rows.bestWindowsRow.domain false) (Rows.bestWindowsSpec.post enc Try.prog Try.f4 false true false false) := by
  refine returnsInHanded_of_change_sized (C := Try.checked) bestWindows_own started (by kernel_rfl) Try.func4
    (ChangeSpec.witness6 (enc := enc) (C := Try.checked) false ⟨#[], #[.slice none 0 0, .string ByteArray.empty, .int .i64 0, .int .i64 0], []⟩ 8 (by kernel_rfl) (by kernel_rfl) (by kernel_rfl) (by kernel_rfl)) ?_
  intro W base args ds gs before hval0 hW hcnd hsz0 _
  have hsz : (DataW.weightsEach Try.prog (Try.f4.params.toList ++ Rows.bestWindowsSpec.plain.varTypes Try.prog) (ds ++ gs)).all (· ≤ reachBytes) = true := hsz0
  have hval : ∀ (j : Nat) t v, Try.f4.params[j]? = some t → args[j]? = some v → Value.okWide Try.prog W .any base t v := hval0
  have hW' := hW
  obtain ⟨p, q, hA0, hV, rfl, hfz, hnd⟩ := hW
  have hA : DataW.TrodAll enc Try.prog W 0 (fun _ => true) true Try.f4.params.toList args.toList ds p := hA0
  rw [Try.params4] at hA hval hsz
  obtain ⟨v0, vs0, d0, ds0, p0, q0, hargs, rfl, rfl, h0, r0⟩ := trodAll_cons hA
  obtain ⟨v1, vs1, d1, ds1, p1, q1, rfl, rfl, rfl, h1, r1⟩ := trodAll_cons r0
  obtain ⟨v2, vs2, d2, ds2, p2, q2, rfl, rfl, rfl, h2, r2⟩ := trodAll_cons r1
  obtain ⟨v3, vs3, d3, ds3, p3, q3, rfl, rfl, rfl, h3, r3⟩ := trodAll_cons r2
  obtain ⟨rfl, rfl, rfl⟩ := trodAll_nil r3
  obtain rfl : args = #[v0, v1, v2, v3] := by cases args; simp_all
  obtain ⟨rfl, rfl⟩ := trodVars_none hV
  obtain ⟨a0, len0, cap0, rfl⟩ := okWide_slice Try.underlying22 (hval 0 22 v0 rfl rfl)
  have k0 := h0
  have lt0 : ∀ x ∈ p0, x.block < W.heap.size := by obtain ⟨m, hm⟩ := k0; exact DataW.trod_lt m _ _ _ hm
  obtain ⟨z0, w0⟩ := h0.elim (fun _ hf => open_list hf hsz 0 rfl rfl)
  obtain ⟨a1, rfl, rfl, rfl, w1⟩ := open_string Try.underlying9 (hval 1 9 v1 rfl rfl) h1
  obtain ⟨a2, rfl, rfl, rfl, w2⟩ := open_int Try.underlying3 (hval 2 3 v2 rfl rfl) h2
  obtain ⟨a3, rfl, rfl, rfl, w3⟩ := open_int Try.underlying3 (hval 3 3 v3 rfl rfl) h3
  clear hA0 hval0
  have s1 : a1.size ≤ 140737488351232 := by have h := sized_string hsz (j := 1) (t := 9) rfl rfl; rw [Array.length_toList] at h; exact h
  refine (windows_walk _ z0 a1 a2 a3 W w0).mono fun e W' ⟨he, bel⟩ => ?_
  subst he
  exact ⟨_, rfl, _, _, _, [], _, [], hW', trodAll_mk1 (shut_bool Try.underlying4 _), (trodAll_cons_mk (Below.trod bestWindows_laidOut (by kernel_rfl) (of_decide_eq_true (by kernel_rfl)) k0 bel lt0) (trodAll_cons_mk (shut_string Try.underlying9 w1) (trodAll_cons_mk (shut_int Try.underlying3 w2) (trodAll_cons_mk (shut_int Try.underlying3 w3) trodAll_mk0)))), rfl, bel.frame _, fun h => by cases h⟩

/-- THE STATEMENT. -/
theorem bestWindows_holds : Rows.BestWindowsSaid :=
  OpenClaim.holds_of_wide 4 Try.f4 rfl rfl rfl rfl rfl rfl rfl ⟨rfl, rfl, rfl, rfl, rfl⟩ rfl rfl rfl rfl rfl (by kernel_rfl) Try.func4 (by kernel_rfl)
    (of_decide_eq_true (by kernel_rfl)) (by unfold Func.isWrapper; first | (rw [if_pos (by decide +kernel)]; kernel_rfl) | (rw [if_neg (by decide +kernel)]; exact ⟨rfl, rfl⟩))
    (fun os started H enc _ => bestWindows_lifted os started H enc)
#print axioms bestWindows_holds
end Go.Proofs.Ytdplflcaanmmiaa
