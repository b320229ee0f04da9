/-
  GreedyTells: of every dictionary, every bytes: the tokens, which mean these bytes; the token at each place; the lists are apart. For every list of texts, every bytes, every place.
  No condition: whatever the input, in whatever memory; the arguments read as before.
-/
import Derived.Test.YtcpflcoimphdcaaAlive13
import Derived.Test.YtcpflcoimphdcaaShelfAny
import Derived.ShutString
import Derived.ChangeOld
import Derived.SizedLaws
namespace Go.Proofs.Ytcpflcoimphdcaa
open Go.ChangeShapes Go.WideShapes Go.ChangeAt Go.RowKit
open Go.ChangeMaps (open_string shut_string)

set_option maxRecDepth 20000 in
set_option maxHeartbeats 8000000 in
theorem tells_walk (v : Value) (L : List ByteArray) (b : ByteArray) (at0 : Int) (w : World) (h : ListIn w v L) :
    Calls Try.prog 3 #[v, .string b, .int .i64 at0] w fun e w' => e = .returned (.bool true) ∧ Below w.heap.size w w' := by
  have H := hid h
  clear h
  by_cases hfits : Fits L (b)
  · obtain ⟨_, h400, hF⟩ := id hfits
    have HF := hid hF
    have hl100 := hF.1
    have HFits := hid hfits
    clear hF hfits
    obtain ⟨ts, hts⟩ : ∃ ts, ts = gA L (nums b) := ⟨_, rfl⟩
    have htl : ts.length ≤ 400 := by rw [hts]; have := gA_few HF.out b; omega
    have HX := hid hts
    clear hts

    by_cases hin0 : 0 ≤ at0 ∧ at0 < (b.size : Int)
    · obtain ⟨i, rfl⟩ : ∃ i : Nat, at0 = (i : Int) := ⟨at0.toNat, by omega⟩
      have hi : i < b.size := by omega
      have hg1 : decide ((0 : Int) ≤ (i : Int)) = true := decide_eq_true (by omega)
      have hg2 : decide ((i : Int) < (b.size : Int)) = true := decide_eq_true (by omega)
      obtain ⟨n, hn⟩ : ∃ n, n = gN L ((nums b).drop i) := ⟨_, rfl⟩
      obtain ⟨t, ht⟩ : ∃ t, t = gT L ((nums b).drop i) := ⟨_, rfl⟩
      have hp := gN_pos HF.out (drop_some hi)
      rw [← hn, List.length_drop, nums_length] at hp
      have hin : i + n ≤ b.size := by omega
      have HTK : Hid (tokT (L.map nums) ((nums b).drop i) n = t) := by show _ = _; rw [ht, hn]; rfl
      have HN := hid hn
      have HT := hid ht
      have e1 : ((t : Int) == (t : Int)) = true := by simp
      have e2 : ((n : Int) == (n : Int)) = true := by simp
      clear hn ht hin0 hp
      go_enter Try.func3, Try.ntmps3
      go_wp2_with (first
        | (go_at_call 7; refine (dict_fits H.out HFits.out).mono ?_; rintro e w1 ⟨p, rfl, hd1, hb1⟩; have HD1 := hid hd1; have H1 := hid (H.out.below hb1); have HB1 := hid hb1; clear hd1 hb1)
        | (go_at_call 8; refine (alive_any _).mono ?_; rintro e w2 ⟨rfl, hb2⟩; have H2 := hid (H1.out.below hb2); have HD2 := hid (HD1.out.below hb2); have HB2 := hid (HB1.out.trans (hb2.mono HB1.out.size)); clear hb2)
        | (have _h := HO5; go_at_call 10; refine (ShelfP.keepNew HS4.out (by omega) HB5.out HO5.out (by rw [ints_length]; omega) HZ4.out.size).mono ?_; rintro e w6 ⟨rfl, hs6, _, hb6, hk6⟩; have HS6 := hid hs6; have HO6 := hid (hk6.row (ownsRow_below HO4.out HB5.out)); have HZ6 := hid ((HZ4.out.trans (HB5.out.mono HZ4.out.size)).trans hb6); clear hs6 hb6 hk6 HS4 HO4 HZ4 HB5 HO5 _h)
        | (have _h := HS4; go_at_call 9; refine (parse_any (HD2.out.below HZ4.out) HF.out b (by omega)).mono ?_; rintro e w5 ⟨v5, rfl, ho5, hb5⟩; rw [← HX.out, ← ints_length ts] at ho5; have HB5 := hid hb5; have HO5 := hid ho5; clear ho5 hb5 _h)
        | (go_at_call 10; have hal : Below w3.heap.size w3 (w3.alloc (.cells #[.slice none 0 0, .slice none 0 0, .slice none 0 0, .slice none 0 0, .slice none 0 0, .slice none 0 0, .slice none 0 0, .slice none 0 0, .slice none 0 0, .slice none 0 0] 36)) := (Below.refl _ _).alloc (Nat.le_refl _) _; refine (ShelfP.keepFirst (shelfP_new w3 w2.heap.size HZ3.out.size) (ownsRow_below HO3.out hal) (by rw [ints_length]; omega) (Nat.le_trans HZ3.out.size hal.size)).mono ?_; rintro e w4 ⟨rfl, hs4, ho4, hb4, _⟩; have HS4 := hid hs4; have HO4 := hid ho4; have HZ4 := hid ((HZ3.out.trans (hal.mono HZ3.out.size)).trans hb4); clear hs4 ho4 hb4 hal HO3)
        | (go_at_call 9; refine (parse_any HD2.out HF.out b (by omega)).mono ?_; rintro e w3 ⟨v3, rfl, ho3, hb3⟩; rw [← HX.out, ← ints_length ts] at ho3; have HO3 := hid ho3; have HZ3 := hid hb3; clear ho3 hb3)
        | (go_at_call 11; refine (next_any (HD2.out.below HZ6.out) HF.out b (by omega) i hi).mono ?_; rintro e w7 ⟨rfl, rfl⟩; rw [← HT.out, ← HN.out])
        | (go_at_call 12; refine (first_any (H2.out.1.below HZ6.out) (by omega) b (by omega) i hi).mono ?_; rintro e w8 ⟨rfl, hb8⟩; rw [← HN.out]; have HS8 := hid (HS6.out.below hb8); have HO8 := hid (ownsRow_below HO6.out hb8); have HZ8 := hid (HZ6.out.trans (hb8.mono HZ6.out.size)); clear hb8)
        | (go_at_call 13; refine (token_any (H2.out.1.below HZ8.out) (by omega) b (by omega) i n hi hin).mono ?_; rintro e w9 ⟨rfl, rfl⟩; rw [HTK.out])
        | (go_at_call 15; refine (refGreedy_any (H2.out.1.below HZ8.out) HF.out b (by omega)).mono ?_; rintro e wA ⟨vA, rfl, hoA, hbA⟩; rw [← HX.out, ← ints_length ts] at hoA; have HRA := hid (ownsRow_reads hoA); have HSA := hid (HS8.out.below hbA); have HOA := hid (ownsRow_below HO8.out hbA); have HZA := hid (HZ8.out.trans (hbA.mono HZ8.out.size)); clear hoA hbA)
        | (go_at_call 14; refine (sameInts_any (xs := ints ts) (ys := ints ts) (ownsRow_reads HOA.out) HRA.out (by rw [ints_length]; omega) (by rw [ints_length]; omega)).mono ?_; rintro e wB ⟨rfl, hbB⟩; rw [decide_eq_true rfl]; have HSB := hid (HSA.out.below hbB); have HRB := hid (ownsRow_reads (ownsRow_below HOA.out hbB)); have HZB := hid (HZA.out.trans (hbB.mono HZA.out.size)); clear hbB)
        | (go_at_call 16; refine (says_any (H2.out.1.below HZB.out) (by omega) HRB.out (by omega) (by rw [HX.out]; exact gA_tokens HF.out b) b (by omega) (by rw [HX.out]; exact gA_means HF.out b)).mono ?_; rintro e wC ⟨rfl, hbC⟩; have HSC := hid (HSB.out.below hbC); have HZC := hid (HZB.out.trans (hbC.mono HZB.out.size)); clear hbC)
        | (go_at_call 17; refine (ShelfP.apart HSC.out (by omega) HZC.out.size).mono ?_; rintro e wD ⟨rfl, hbD⟩; have HBD := hid (HB2.out.trans ((HZC.out.trans hbD).mono HB2.out.size)); clear hbD))
      go_ret
      exact ⟨by simp, HBD.out⟩
    · have hoff : at0 < 0 ∨ (b.size : Int) ≤ at0 := by omega
      by_cases h0 : 0 ≤ at0
      · have hg1 : decide ((0 : Int) ≤ at0) = true := decide_eq_true h0
        have hg2 : decide (at0 < (b.size : Int)) = false := decide_eq_false (by omega)
        clear hin0
        go_enter Try.func3, Try.ntmps3
        go_wp2_with (first
          | (go_at_call 7; refine (dict_fits H.out HFits.out).mono ?_; rintro e w1 ⟨p, rfl, hd1, hb1⟩; have HD1 := hid hd1; have H1 := hid (H.out.below hb1); have HB1 := hid hb1; clear hd1 hb1)
          | (go_at_call 8; refine (alive_any _).mono ?_; rintro e w2 ⟨rfl, hb2⟩; have H2 := hid (H1.out.below hb2); have HD2 := hid (HD1.out.below hb2); have HB2 := hid (HB1.out.trans (hb2.mono HB1.out.size)); clear hb2)
          | (have _h := HO5; go_at_call 10; refine (ShelfP.keepNew HS4.out (by omega) HB5.out HO5.out (by rw [ints_length]; omega) HZ4.out.size).mono ?_; rintro e w6 ⟨rfl, hs6, _, hb6, hk6⟩; have HS6 := hid hs6; have HO6 := hid (hk6.row (ownsRow_below HO4.out HB5.out)); have HZ6 := hid ((HZ4.out.trans (HB5.out.mono HZ4.out.size)).trans hb6); clear hs6 hb6 hk6 HS4 HO4 HZ4 HB5 HO5 _h)
          | (have _h := HS4; go_at_call 9; refine (parse_any (HD2.out.below HZ4.out) HF.out b (by omega)).mono ?_; rintro e w5 ⟨v5, rfl, ho5, hb5⟩; rw [← HX.out, ← ints_length ts] at ho5; have HB5 := hid hb5; have HO5 := hid ho5; clear ho5 hb5 _h)
          | (go_at_call 10; have hal : Below w3.heap.size w3 (w3.alloc (.cells #[.slice none 0 0, .slice none 0 0, .slice none 0 0, .slice none 0 0, .slice none 0 0, .slice none 0 0, .slice none 0 0, .slice none 0 0, .slice none 0 0, .slice none 0 0] 36)) := (Below.refl _ _).alloc (Nat.le_refl _) _; refine (ShelfP.keepFirst (shelfP_new w3 w2.heap.size HZ3.out.size) (ownsRow_below HO3.out hal) (by rw [ints_length]; omega) (Nat.le_trans HZ3.out.size hal.size)).mono ?_; rintro e w4 ⟨rfl, hs4, ho4, hb4, _⟩; have HS4 := hid hs4; have HO4 := hid ho4; have HZ4 := hid ((HZ3.out.trans (hal.mono HZ3.out.size)).trans hb4); clear hs4 ho4 hb4 hal HO3)
          | (go_at_call 9; refine (parse_any HD2.out HF.out b (by omega)).mono ?_; rintro e w3 ⟨v3, rfl, ho3, hb3⟩; rw [← HX.out, ← ints_length ts] at ho3; have HO3 := hid ho3; have HZ3 := hid hb3; clear ho3 hb3)
          | (go_at_call 11; refine (next_off _ _ b at0 hoff).mono ?_; rintro e w7 ⟨rfl, rfl⟩)
          | (go_at_call 15; refine (refGreedy_any (H2.out.1.below HZ6.out) HF.out b (by omega)).mono ?_; rintro e wA ⟨vA, rfl, hoA, hbA⟩; rw [← HX.out, ← ints_length ts] at hoA; have HRA := hid (ownsRow_reads hoA); have HSA := hid (HS6.out.below hbA); have HOA := hid (ownsRow_below HO6.out hbA); have HZA := hid (HZ6.out.trans (hbA.mono HZ6.out.size)); clear hoA hbA)
          | (go_at_call 14; refine (sameInts_any (xs := ints ts) (ys := ints ts) (ownsRow_reads HOA.out) HRA.out (by rw [ints_length]; omega) (by rw [ints_length]; omega)).mono ?_; rintro e wB ⟨rfl, hbB⟩; rw [decide_eq_true rfl]; have HSB := hid (HSA.out.below hbB); have HRB := hid (ownsRow_reads (ownsRow_below HOA.out hbB)); have HZB := hid (HZA.out.trans (hbB.mono HZA.out.size)); clear hbB)
          | (go_at_call 16; refine (says_any (H2.out.1.below HZB.out) (by omega) HRB.out (by omega) (by rw [HX.out]; exact gA_tokens HF.out b) b (by omega) (by rw [HX.out]; exact gA_means HF.out b)).mono ?_; rintro e wC ⟨rfl, hbC⟩; have HSC := hid (HSB.out.below hbC); have HZC := hid (HZB.out.trans (hbC.mono HZB.out.size)); clear hbC)
          | (go_at_call 17; refine (ShelfP.apart HSC.out (by omega) HZC.out.size).mono ?_; rintro e wD ⟨rfl, hbD⟩; have HBD := hid (HB2.out.trans ((HZC.out.trans hbD).mono HB2.out.size)); clear hbD))
        go_ret
        exact ⟨by simp, HBD.out⟩
      · have hg1 : decide ((0 : Int) ≤ at0) = false := decide_eq_false h0
        clear hin0
        go_enter Try.func3, Try.ntmps3
        go_wp2_with (first
          | (go_at_call 7; refine (dict_fits H.out HFits.out).mono ?_; rintro e w1 ⟨p, rfl, hd1, hb1⟩; have HD1 := hid hd1; have H1 := hid (H.out.below hb1); have HB1 := hid hb1; clear hd1 hb1)
          | (go_at_call 8; refine (alive_any _).mono ?_; rintro e w2 ⟨rfl, hb2⟩; have H2 := hid (H1.out.below hb2); have HD2 := hid (HD1.out.below hb2); have HB2 := hid (HB1.out.trans (hb2.mono HB1.out.size)); clear hb2)
          | (have _h := HO5; go_at_call 10; refine (ShelfP.keepNew HS4.out (by omega) HB5.out HO5.out (by rw [ints_length]; omega) HZ4.out.size).mono ?_; rintro e w6 ⟨rfl, hs6, _, hb6, hk6⟩; have HS6 := hid hs6; have HO6 := hid (hk6.row (ownsRow_below HO4.out HB5.out)); have HZ6 := hid ((HZ4.out.trans (HB5.out.mono HZ4.out.size)).trans hb6); clear hs6 hb6 hk6 HS4 HO4 HZ4 HB5 HO5 _h)
          | (have _h := HS4; go_at_call 9; refine (parse_any (HD2.out.below HZ4.out) HF.out b (by omega)).mono ?_; rintro e w5 ⟨v5, rfl, ho5, hb5⟩; rw [← HX.out, ← ints_length ts] at ho5; have HB5 := hid hb5; have HO5 := hid ho5; clear ho5 hb5 _h)
          | (go_at_call 10; have hal : Below w3.heap.size w3 (w3.alloc (.cells #[.slice none 0 0, .slice none 0 0, .slice none 0 0, .slice none 0 0, .slice none 0 0, .slice none 0 0, .slice none 0 0, .slice none 0 0, .slice none 0 0, .slice none 0 0] 36)) := (Below.refl _ _).alloc (Nat.le_refl _) _; refine (ShelfP.keepFirst (shelfP_new w3 w2.heap.size HZ3.out.size) (ownsRow_below HO3.out hal) (by rw [ints_length]; omega) (Nat.le_trans HZ3.out.size hal.size)).mono ?_; rintro e w4 ⟨rfl, hs4, ho4, hb4, _⟩; have HS4 := hid hs4; have HO4 := hid ho4; have HZ4 := hid ((HZ3.out.trans (hal.mono HZ3.out.size)).trans hb4); clear hs4 ho4 hb4 hal HO3)
          | (go_at_call 9; refine (parse_any HD2.out HF.out b (by omega)).mono ?_; rintro e w3 ⟨v3, rfl, ho3, hb3⟩; rw [← HX.out, ← ints_length ts] at ho3; have HO3 := hid ho3; have HZ3 := hid hb3; clear ho3 hb3)
          | (go_at_call 11; refine (next_off _ _ b at0 hoff).mono ?_; rintro e w7 ⟨rfl, rfl⟩)
          | (go_at_call 15; refine (refGreedy_any (H2.out.1.below HZ6.out) HF.out b (by omega)).mono ?_; rintro e wA ⟨vA, rfl, hoA, hbA⟩; rw [← HX.out, ← ints_length ts] at hoA; have HRA := hid (ownsRow_reads hoA); have HSA := hid (HS6.out.below hbA); have HOA := hid (ownsRow_below HO6.out hbA); have HZA := hid (HZ6.out.trans (hbA.mono HZ6.out.size)); clear hoA hbA)
          | (go_at_call 14; refine (sameInts_any (xs := ints ts) (ys := ints ts) (ownsRow_reads HOA.out) HRA.out (by rw [ints_length]; omega) (by rw [ints_length]; omega)).mono ?_; rintro e wB ⟨rfl, hbB⟩; rw [decide_eq_true rfl]; have HSB := hid (HSA.out.below hbB); have HRB := hid (ownsRow_reads (ownsRow_below HOA.out hbB)); have HZB := hid (HZA.out.trans (hbB.mono HZA.out.size)); clear hbB)
          | (go_at_call 16; refine (says_any (H2.out.1.below HZB.out) (by omega) HRB.out (by omega) (by rw [HX.out]; exact gA_tokens HF.out b) b (by omega) (by rw [HX.out]; exact gA_means HF.out b)).mono ?_; rintro e wC ⟨rfl, hbC⟩; have HSC := hid (HSB.out.below hbC); have HZC := hid (HZB.out.trans (hbC.mono HZB.out.size)); clear hbC)
          | (go_at_call 17; refine (ShelfP.apart HSC.out (by omega) HZC.out.size).mono ?_; rintro e wD ⟨rfl, hbD⟩; have HBD := hid (HB2.out.trans ((HZC.out.trans hbD).mono HB2.out.size)); clear hbD))
        go_ret
        exact ⟨by simp, HBD.out⟩
  · have HFits := hid hfits
    clear hfits
    go_enter Try.func3, Try.ntmps3
    go_wp2_with (first
      | (go_at_call 7; refine (dict_no H.out HFits.out).mono ?_; rintro e w1 ⟨rfl, rfl⟩)
      | (go_at_call 8; refine (alive_any _).mono ?_; rintro e w2 ⟨rfl, hb2⟩))
    go_ret
    exact ⟨rfl, hb2⟩

set_option linter.unusedVariables false
theorem greedyTells_own : ownKnob Try.prog.godebug = none := by kernel_rfl

theorem greedyTells_laidOut : laidOutB Try.prog = true := by kernel_rfl

set_option maxRecDepth 100000 in
theorem greedyTells_lifted (os : Os) (started : os.Started) (H : Type) (enc : TypeId × Value → H) :
    ReturnsInHanded {} Try.checked os 3 .any (Rows.greedyTellsSpec.pre6 enc Try.prog Try.f3 Rows.greedyTellsRow.domain false) (Rows.greedyTellsSpec.post enc Try.prog Try.f3 false true false false) := by
  refine returnsInHanded_of_change_sized (C := Try.checked) greedyTells_own started (by kernel_rfl) Try.func3
    (ChangeSpec.witness6 (enc := enc) (C := Try.checked) false ⟨#[], #[.slice none 0 0, .string ByteArray.empty, .int .i64 0], []⟩ 8 (by kernel_rfl) (by kernel_rfl) (by kernel_rfl) (by kernel_rfl)) ?_
  intro W base args ds gs before hval0 hW hcnd hsz0 _
  have hsz : (DataW.weightsEach Try.prog (Try.f3.params.toList ++ Rows.greedyTellsSpec.plain.varTypes Try.prog) (ds ++ gs)).all (· ≤ reachBytes) = true := hsz0
  have hval : ∀ (j : Nat) t v, Try.f3.params[j]? = some t → args[j]? = some v → Value.okWide Try.prog W .any base t v := hval0
  have hW' := hW
  obtain ⟨p, q, hA0, hV, rfl, hfz, hnd⟩ := hW
  have hA : DataW.TrodAll enc Try.prog W 0 (fun _ => true) true Try.f3.params.toList args.toList ds p := hA0
  rw [Try.params3] at hA hval hsz
  obtain ⟨v0, vs0, d0, ds0, p0, q0, hargs, rfl, rfl, h0, r0⟩ := trodAll_cons hA
  obtain ⟨v1, vs1, d1, ds1, p1, q1, rfl, rfl, rfl, h1, r1⟩ := trodAll_cons r0
  obtain ⟨v2, vs2, d2, ds2, p2, q2, rfl, rfl, rfl, h2, r2⟩ := trodAll_cons r1
  obtain ⟨rfl, rfl, rfl⟩ := trodAll_nil r2
  obtain rfl : args = #[v0, v1, v2] := by cases args; simp_all
  obtain ⟨rfl, rfl⟩ := trodVars_none hV
  obtain ⟨a0, len0, cap0, rfl⟩ := okWide_slice Try.underlying22 (hval 0 22 v0 rfl rfl)
  have k0 := h0
  have lt0 : ∀ x ∈ p0, x.block < W.heap.size := by obtain ⟨m, hm⟩ := k0; exact DataW.trod_lt m _ _ _ hm
  obtain ⟨z0, w0⟩ := h0.elim (fun _ hf => open_list hf hsz 0 rfl rfl)
  obtain ⟨a1, rfl, rfl, rfl, w1⟩ := open_string Try.underlying9 (hval 1 9 v1 rfl rfl) h1
  obtain ⟨a2, rfl, rfl, rfl, w2⟩ := open_int Try.underlying3 (hval 2 3 v2 rfl rfl) h2
  clear hA0 hval0
  have s1 : a1.size ≤ 140737488351232 := by have h := sized_string hsz (j := 1) (t := 9) rfl rfl; rw [Array.length_toList] at h; exact h
  refine (tells_walk _ z0 a1 a2 W w0).mono fun e W' ⟨he, bel⟩ => ?_
  subst he
  exact ⟨_, rfl, _, _, _, [], _, [], hW', trodAll_mk1 (shut_bool Try.underlying4 _), (trodAll_cons_mk (Below.trod greedyTells_laidOut (by kernel_rfl) (of_decide_eq_true (by kernel_rfl)) k0 bel lt0) (trodAll_cons_mk (shut_string Try.underlying9 w1) (trodAll_cons_mk (shut_int Try.underlying3 w2) trodAll_mk0))), rfl, bel.frame _, fun h => by cases h⟩

/-- THE STATEMENT. -/
theorem greedyTells_holds : Rows.GreedyTellsSaid :=
  OpenClaim.holds_of_wide 3 Try.f3 rfl rfl rfl rfl rfl rfl rfl ⟨rfl, rfl, rfl, rfl, rfl⟩ rfl rfl rfl rfl rfl (by kernel_rfl) Try.func3 (by kernel_rfl)
    (of_decide_eq_true (by kernel_rfl)) (by unfold Func.isWrapper; first | (rw [if_pos (by decide +kernel)]; kernel_rfl) | (rw [if_neg (by decide +kernel)]; exact ⟨rfl, rfl⟩))
    (fun os started H enc _ => greedyTells_lifted os started H enc)
#print axioms greedyTells_holds
end Go.Proofs.Ytcpflcoimphdcaa
