/-
  FlexTells: of every dictionary, every bytes: the tokens, which mean these bytes; the token at each place; how far one comes; the lists are apart. For every list of texts, every bytes, every two numbers.
  No condition: whatever the input, in whatever memory; the arguments read as before.
-/
import Derived.Test.YthgpacpahljabaaAlive14
import Derived.Test.YthgpacpahljabaaShelfAny
import Derived.ShutString
import Derived.ChangeOld
import Derived.SizedLaws
namespace Go.Proofs.Ythgpacpahljabaa
open Go.ChangeShapes Go.WideShapes Go.ChangeAt Go.RowKit
open Go.ChangeMaps (open_string shut_string)

theorem word_of {n : Int} (h : (Lit.int .i64 n).wf = true) : n ≤ 9223372036854775807 := by
  simp only [Lit.wf, Bool.and_eq_true, IntKind.min, IntKind.max, IntKind.signed, IntKind.bits] at h
  simp at h
  omega

/-- How far one comes, by the code and by the document: the same number. -/
theorem reach_same {w0 : World} {d v : Value} {L : List ByteArray} (hd : DictV w0 d L) (hv : Reads w0 v (strs L)) (hL : Fine L) (b : ByteArray) (hb : b.size ≤ 1000) (at0 n0 : Int) (h1 : at0 ≤ 9223372036854775807) (h2 : n0 ≤ 9223372036854775807) :
    ∃ r : Int, (∀ W, Below w0.heap.size w0 W → Calls Try.prog 15 #[d, .string b, .int .i64 at0, .int .i64 n0] W fun e w' => e = .returned (.int .i64 r) ∧ w' = W)
      ∧ (∀ W, Below w0.heap.size w0 W → Calls Try.prog 16 #[v, .string b, .int .i64 at0, .int .i64 n0] W fun e w' => e = .returned (.int .i64 r) ∧ Below W.heap.size W w') := by
  by_cases h : at0 < 0 ∨ n0 < 0 ∨ (b.size : Int) < at0 + n0
  · exact ⟨0, fun W _ => reach_off W d b at0 n0 hb h2 h h1, fun W _ => (reachR_off W v b at0 n0 hb h2 h h1).mono (by rintro e w' ⟨rfl, rfl⟩; exact ⟨rfl, Below.refl _ _⟩)⟩
  · obtain ⟨i, rfl⟩ : ∃ i : Nat, at0 = (i : Int) := ⟨at0.toNat, by omega⟩
    obtain ⟨n, rfl⟩ : ∃ n : Nat, n0 = (n : Int) := ⟨n0.toNat, by omega⟩
    exact ⟨_, fun W hW => reach_any (hd.below hW) hL b hb i n (by omega), fun W hW => reachR_any (hv.below hW) hL b hb i n (by omega)⟩

set_option maxRecDepth 20000 in
set_option maxHeartbeats 8000000 in
theorem tells_walk (v : Value) (L : List ByteArray) (b : ByteArray) (at0 n0 : Int) (g1 : at0 ≤ 9223372036854775807) (g2 : n0 ≤ 9223372036854775807) (w : World) (h : ListIn w v L) :
    Calls Try.prog 3 #[v, .string b, .int .i64 at0, .int .i64 n0] w fun e w' => e = .returned (.bool true) ∧ Below w.heap.size w w' := by
  have H := hid h
  clear h
  by_cases hfits : Fits L (b)
  · obtain ⟨_, h400, hF⟩ := id hfits
    have HF := hid hF
    have hl100 := hF.1
    have HFits := hid hfits
    clear hF hfits
    obtain ⟨ts, hts⟩ : ∃ ts, ts = xA L (nums b) := ⟨_, rfl⟩
    have htl : ts.length ≤ 400 := by rw [hts]; have := xA_few HF.out b; omega
    have HX := hid hts
    clear hts

    by_cases hin0 : 0 ≤ at0 ∧ at0 < (b.size : Int)
    · obtain ⟨i, rfl⟩ : ∃ i : Nat, at0 = (i : Int) := ⟨at0.toNat, by omega⟩
      have hi : i < b.size := by omega
      have hg1 : decide ((0 : Int) ≤ (i : Int)) = true := decide_eq_true (by omega)
      have hg2 : decide ((i : Int) < (b.size : Int)) = true := decide_eq_true (by omega)
      obtain ⟨n, hn⟩ : ∃ n, n = xN L ((nums b).drop i) := ⟨_, rfl⟩
      obtain ⟨t, ht⟩ : ∃ t, t = xT L ((nums b).drop i) := ⟨_, rfl⟩
      have hp := xN_pos HF.out (drop_some hi)
      rw [← hn, List.length_drop, nums_length] at hp
      have hin : i + n ≤ b.size := by omega
      have HTK : Hid (tokT (L.map nums) ((nums b).drop i) n = t) := by show _ = _; rw [ht, hn]; rfl
      have HN := hid hn
      have HT := hid ht
      have e1 : ((t : Int) == (t : Int)) = true := by simp
      have e2 : ((n : Int) == (n : Int)) = true := by simp
      clear hn ht hin0 hp
      go_enter Try.func3, Try.ntmps3
      go_wp2_with (first
        | (go_at_call 8; refine (dict_fits H.out HFits.out).mono ?_; rintro e w1 ⟨p, rfl, hd1, hb1⟩; have HD1 := hid hd1; have H1 := hid (H.out.below hb1); have HB1 := hid hb1; clear hd1 hb1)
        | (go_at_call 9; refine (alive_14 _).mono ?_; rintro e w2 ⟨rfl, hb2⟩; have H2 := hid (H1.out.below hb2); have HD2 := hid (HD1.out.below hb2); have HB2 := hid (HB1.out.trans (hb2.mono HB1.out.size)); clear hb2)
        | (have _h := HO5; go_at_call 11; refine (ShelfP.keepNew HS4.out (by omega) HB5.out HO5.out (by rw [ints_length]; omega) HZ4.out.size).mono ?_; rintro e w6 ⟨rfl, hs6, _, hb6, hk6⟩; have HS6 := hid hs6; have HO6 := hid (hk6.row (ownsRow_below HO4.out HB5.out)); have HZ6 := hid ((HZ4.out.trans (HB5.out.mono HZ4.out.size)).trans hb6); clear hs6 hb6 hk6 HS4 HO4 HZ4 HB5 HO5 _h)
        | (have _h := HS4; go_at_call 10; refine (parseX_any (HD2.out.below HZ4.out) HF.out b (by omega)).mono ?_; rintro e w5 ⟨v5, rfl, ho5, hb5⟩; rw [← HX.out, ← ints_length ts] at ho5; have HB5 := hid hb5; have HO5 := hid ho5; clear ho5 hb5 _h)
        | (go_at_call 11; have hal : Below w3.heap.size w3 (w3.alloc (.cells #[.slice none 0 0, .slice none 0 0, .slice none 0 0, .slice none 0 0, .slice none 0 0, .slice none 0 0, .slice none 0 0, .slice none 0 0, .slice none 0 0, .slice none 0 0] 36)) := (Below.refl _ _).alloc (Nat.le_refl _) _; refine (ShelfP.keepFirst (shelfP_new w3 w2.heap.size HZ3.out.size) (ownsRow_below HO3.out hal) (by rw [ints_length]; omega) (Nat.le_trans HZ3.out.size hal.size)).mono ?_; rintro e w4 ⟨rfl, hs4, ho4, hb4, _⟩; have HS4 := hid hs4; have HO4 := hid ho4; have HZ4 := hid ((HZ3.out.trans (hal.mono HZ3.out.size)).trans hb4); clear hs4 ho4 hb4 hal HO3)
        | (go_at_call 10; refine (parseX_any HD2.out HF.out b (by omega)).mono ?_; rintro e w3 ⟨v3, rfl, ho3, hb3⟩; rw [← HX.out, ← ints_length ts] at ho3; obtain ⟨r, hr1, hr2⟩ := reach_same HD2.out H2.out.1 HF.out b (by omega) (i : Int) n0 g1 g2; have HR1 := hid hr1; have HR2 := hid hr2; have e3 : ((r : Int) == (r : Int)) = true := (by simp); have HO3 := hid ho3; have HZ3 := hid hb3; clear ho3 hb3 hr1 hr2)
        | (go_at_call 12; refine (nextX_any (HD2.out.below HZ6.out) HF.out b (by omega) i hi).mono ?_; rintro e w7 ⟨rfl, q7, hq7⟩; rw [← HT.out, ← HN.out]; have hb7 : Below w6.heap.size w6 w7 := (by rw [hq7]; exact drewN_below _ _ _); have HS7 := hid (HS6.out.below hb7); have HO7 := hid (ownsRow_below HO6.out hb7); have HZ7 := hid (HZ6.out.trans (hb7.mono HZ6.out.size)); clear hb7 hq7)
        | (go_at_call 13; refine (second_any (H2.out.1.below HZ7.out) HF.out b (by omega) i hi).mono ?_; rintro e w8 ⟨rfl, hb8⟩; rw [← HN.out]; have HS8 := hid (HS7.out.below hb8); have HO8 := hid (ownsRow_below HO7.out hb8); have HZ8 := hid (HZ7.out.trans (hb8.mono HZ7.out.size)); clear hb8)
        | (go_at_call 14; refine (token_any (H2.out.1.below HZ8.out) (by omega) b (by omega) i n hi hin).mono ?_; rintro e w9 ⟨rfl, rfl⟩; rw [HTK.out])
        | (go_at_call 15; refine (HR1.out _ HZ8.out).mono ?_; rintro e wR ⟨rfl, rfl⟩)
        | (go_at_call 16; refine (HR2.out _ HZ8.out).mono ?_; rintro e wF ⟨rfl, hbF⟩; have HSF := hid (HS8.out.below hbF); have HOF := hid (ownsRow_below HO8.out hbF); have HZF := hid (HZ8.out.trans (hbF.mono HZ8.out.size)); clear hbF)
        | (go_at_call 18; refine (refFlex_any (H2.out.1.below HZF.out) HF.out b (by omega)).mono ?_; rintro e wA ⟨vA, rfl, hoA, hbA⟩; rw [← HX.out, ← ints_length ts] at hoA; have HRA := hid (ownsRow_reads hoA); have HSA := hid (HSF.out.below hbA); have HOA := hid (ownsRow_below HOF.out hbA); have HZA := hid (HZF.out.trans (hbA.mono HZF.out.size)); clear hoA hbA)
        | (go_at_call 17; refine (sameInts_any (xs := ints ts) (ys := ints ts) (ownsRow_reads HOA.out) HRA.out (by rw [ints_length]; omega) (by rw [ints_length]; omega)).mono ?_; rintro e wB ⟨rfl, hbB⟩; rw [decide_eq_true rfl]; have HSB := hid (HSA.out.below hbB); have HRB := hid (ownsRow_reads (ownsRow_below HOA.out hbB)); have HZB := hid (HZA.out.trans (hbB.mono HZA.out.size)); clear hbB)
        | (go_at_call 19; refine (says_any (H2.out.1.below HZB.out) (by omega) HRB.out (by omega) (by rw [HX.out]; exact xA_tokens HF.out b) b (by omega) (by rw [HX.out]; exact xA_means HF.out b)).mono ?_; rintro e wC ⟨rfl, hbC⟩; have HSC := hid (HSB.out.below hbC); have HZC := hid (HZB.out.trans (hbC.mono HZB.out.size)); clear hbC)
        | (go_at_call 20; refine (ShelfP.apart HSC.out (by omega) HZC.out.size).mono ?_; rintro e wD ⟨rfl, hbD⟩; have HBD := hid (HB2.out.trans ((HZC.out.trans hbD).mono HB2.out.size)); clear hbD))
      go_ret
      exact ⟨by simp, HBD.out⟩
    · have hoff : at0 < 0 ∨ (b.size : Int) ≤ at0 := by omega
      by_cases h0 : 0 ≤ at0
      · have hg1 : decide ((0 : Int) ≤ at0) = true := decide_eq_true h0
        have hg2 : decide (at0 < (b.size : Int)) = false := decide_eq_false (by omega)
        clear hin0
        go_enter Try.func3, Try.ntmps3
        go_wp2_with (first
          | (go_at_call 8; refine (dict_fits H.out HFits.out).mono ?_; rintro e w1 ⟨p, rfl, hd1, hb1⟩; have HD1 := hid hd1; have H1 := hid (H.out.below hb1); have HB1 := hid hb1; clear hd1 hb1)
          | (go_at_call 9; refine (alive_14 _).mono ?_; rintro e w2 ⟨rfl, hb2⟩; have H2 := hid (H1.out.below hb2); have HD2 := hid (HD1.out.below hb2); have HB2 := hid (HB1.out.trans (hb2.mono HB1.out.size)); clear hb2)
          | (have _h := HO5; go_at_call 11; refine (ShelfP.keepNew HS4.out (by omega) HB5.out HO5.out (by rw [ints_length]; omega) HZ4.out.size).mono ?_; rintro e w6 ⟨rfl, hs6, _, hb6, hk6⟩; have HS6 := hid hs6; have HO6 := hid (hk6.row (ownsRow_below HO4.out HB5.out)); have HZ6 := hid ((HZ4.out.trans (HB5.out.mono HZ4.out.size)).trans hb6); clear hs6 hb6 hk6 HS4 HO4 HZ4 HB5 HO5 _h)
          | (have _h := HS4; go_at_call 10; refine (parseX_any (HD2.out.below HZ4.out) HF.out b (by omega)).mono ?_; rintro e w5 ⟨v5, rfl, ho5, hb5⟩; rw [← HX.out, ← ints_length ts] at ho5; have HB5 := hid hb5; have HO5 := hid ho5; clear ho5 hb5 _h)
          | (go_at_call 11; have hal : Below w3.heap.size w3 (w3.alloc (.cells #[.slice none 0 0, .slice none 0 0, .slice none 0 0, .slice none 0 0, .slice none 0 0, .slice none 0 0, .slice none 0 0, .slice none 0 0, .slice none 0 0, .slice none 0 0] 36)) := (Below.refl _ _).alloc (Nat.le_refl _) _; refine (ShelfP.keepFirst (shelfP_new w3 w2.heap.size HZ3.out.size) (ownsRow_below HO3.out hal) (by rw [ints_length]; omega) (Nat.le_trans HZ3.out.size hal.size)).mono ?_; rintro e w4 ⟨rfl, hs4, ho4, hb4, _⟩; have HS4 := hid hs4; have HO4 := hid ho4; have HZ4 := hid ((HZ3.out.trans (hal.mono HZ3.out.size)).trans hb4); clear hs4 ho4 hb4 hal HO3)
          | (go_at_call 10; refine (parseX_any HD2.out HF.out b (by omega)).mono ?_; rintro e w3 ⟨v3, rfl, ho3, hb3⟩; rw [← HX.out, ← ints_length ts] at ho3; obtain ⟨r, hr1, hr2⟩ := reach_same HD2.out H2.out.1 HF.out b (by omega) at0 n0 g1 g2; have HR1 := hid hr1; have HR2 := hid hr2; have e3 : ((r : Int) == (r : Int)) = true := (by simp); have HO3 := hid ho3; have HZ3 := hid hb3; clear ho3 hb3 hr1 hr2)
          | (go_at_call 12; refine (nextX_off _ _ b at0 hoff).mono ?_; rintro e w7 ⟨rfl, hq7⟩; have hb7 : Below w6.heap.size w6 w7 := (by rw [hq7]; exact Below.refl _ _); have HS7 := hid (HS6.out.below hb7); have HO7 := hid (ownsRow_below HO6.out hb7); have HZ7 := hid (HZ6.out.trans (hb7.mono HZ6.out.size)); clear hb7 hq7)
          | (go_at_call 15; refine (HR1.out _ HZ7.out).mono ?_; rintro e wR ⟨rfl, rfl⟩)
          | (go_at_call 16; refine (HR2.out _ HZ7.out).mono ?_; rintro e wF ⟨rfl, hbF⟩; have HSF := hid (HS7.out.below hbF); have HOF := hid (ownsRow_below HO7.out hbF); have HZF := hid (HZ7.out.trans (hbF.mono HZ7.out.size)); clear hbF)
          | (go_at_call 18; refine (refFlex_any (H2.out.1.below HZF.out) HF.out b (by omega)).mono ?_; rintro e wA ⟨vA, rfl, hoA, hbA⟩; rw [← HX.out, ← ints_length ts] at hoA; have HRA := hid (ownsRow_reads hoA); have HSA := hid (HSF.out.below hbA); have HOA := hid (ownsRow_below HOF.out hbA); have HZA := hid (HZF.out.trans (hbA.mono HZF.out.size)); clear hoA hbA)
          | (go_at_call 17; refine (sameInts_any (xs := ints ts) (ys := ints ts) (ownsRow_reads HOA.out) HRA.out (by rw [ints_length]; omega) (by rw [ints_length]; omega)).mono ?_; rintro e wB ⟨rfl, hbB⟩; rw [decide_eq_true rfl]; have HSB := hid (HSA.out.below hbB); have HRB := hid (ownsRow_reads (ownsRow_below HOA.out hbB)); have HZB := hid (HZA.out.trans (hbB.mono HZA.out.size)); clear hbB)
          | (go_at_call 19; refine (says_any (H2.out.1.below HZB.out) (by omega) HRB.out (by omega) (by rw [HX.out]; exact xA_tokens HF.out b) b (by omega) (by rw [HX.out]; exact xA_means HF.out b)).mono ?_; rintro e wC ⟨rfl, hbC⟩; have HSC := hid (HSB.out.below hbC); have HZC := hid (HZB.out.trans (hbC.mono HZB.out.size)); clear hbC)
          | (go_at_call 20; refine (ShelfP.apart HSC.out (by omega) HZC.out.size).mono ?_; rintro e wD ⟨rfl, hbD⟩; have HBD := hid (HB2.out.trans ((HZC.out.trans hbD).mono HB2.out.size)); clear hbD))
        go_ret
        exact ⟨by simp, HBD.out⟩
      · have hg1 : decide ((0 : Int) ≤ at0) = false := decide_eq_false h0
        clear hin0
        go_enter Try.func3, Try.ntmps3
        go_wp2_with (first
          | (go_at_call 8; refine (dict_fits H.out HFits.out).mono ?_; rintro e w1 ⟨p, rfl, hd1, hb1⟩; have HD1 := hid hd1; have H1 := hid (H.out.below hb1); have HB1 := hid hb1; clear hd1 hb1)
          | (go_at_call 9; refine (alive_14 _).mono ?_; rintro e w2 ⟨rfl, hb2⟩; have H2 := hid (H1.out.below hb2); have HD2 := hid (HD1.out.below hb2); have HB2 := hid (HB1.out.trans (hb2.mono HB1.out.size)); clear hb2)
          | (have _h := HO5; go_at_call 11; refine (ShelfP.keepNew HS4.out (by omega) HB5.out HO5.out (by rw [ints_length]; omega) HZ4.out.size).mono ?_; rintro e w6 ⟨rfl, hs6, _, hb6, hk6⟩; have HS6 := hid hs6; have HO6 := hid (hk6.row (ownsRow_below HO4.out HB5.out)); have HZ6 := hid ((HZ4.out.trans (HB5.out.mono HZ4.out.size)).trans hb6); clear hs6 hb6 hk6 HS4 HO4 HZ4 HB5 HO5 _h)
          | (have _h := HS4; go_at_call 10; refine (parseX_any (HD2.out.below HZ4.out) HF.out b (by omega)).mono ?_; rintro e w5 ⟨v5, rfl, ho5, hb5⟩; rw [← HX.out, ← ints_length ts] at ho5; have HB5 := hid hb5; have HO5 := hid ho5; clear ho5 hb5 _h)
          | (go_at_call 11; have hal : Below w3.heap.size w3 (w3.alloc (.cells #[.slice none 0 0, .slice none 0 0, .slice none 0 0, .slice none 0 0, .slice none 0 0, .slice none 0 0, .slice none 0 0, .slice none 0 0, .slice none 0 0, .slice none 0 0] 36)) := (Below.refl _ _).alloc (Nat.le_refl _) _; refine (ShelfP.keepFirst (shelfP_new w3 w2.heap.size HZ3.out.size) (ownsRow_below HO3.out hal) (by rw [ints_length]; omega) (Nat.le_trans HZ3.out.size hal.size)).mono ?_; rintro e w4 ⟨rfl, hs4, ho4, hb4, _⟩; have HS4 := hid hs4; have HO4 := hid ho4; have HZ4 := hid ((HZ3.out.trans (hal.mono HZ3.out.size)).trans hb4); clear hs4 ho4 hb4 hal HO3)
          | (go_at_call 10; refine (parseX_any HD2.out HF.out b (by omega)).mono ?_; rintro e w3 ⟨v3, rfl, ho3, hb3⟩; rw [← HX.out, ← ints_length ts] at ho3; obtain ⟨r, hr1, hr2⟩ := reach_same HD2.out H2.out.1 HF.out b (by omega) at0 n0 g1 g2; have HR1 := hid hr1; have HR2 := hid hr2; have e3 : ((r : Int) == (r : Int)) = true := (by simp); have HO3 := hid ho3; have HZ3 := hid hb3; clear ho3 hb3 hr1 hr2)
          | (go_at_call 12; refine (nextX_off _ _ b at0 hoff).mono ?_; rintro e w7 ⟨rfl, hq7⟩; have hb7 : Below w6.heap.size w6 w7 := (by rw [hq7]; exact Below.refl _ _); have HS7 := hid (HS6.out.below hb7); have HO7 := hid (ownsRow_below HO6.out hb7); have HZ7 := hid (HZ6.out.trans (hb7.mono HZ6.out.size)); clear hb7 hq7)
          | (go_at_call 15; refine (HR1.out _ HZ7.out).mono ?_; rintro e wR ⟨rfl, rfl⟩)
          | (go_at_call 16; refine (HR2.out _ HZ7.out).mono ?_; rintro e wF ⟨rfl, hbF⟩; have HSF := hid (HS7.out.below hbF); have HOF := hid (ownsRow_below HO7.out hbF); have HZF := hid (HZ7.out.trans (hbF.mono HZ7.out.size)); clear hbF)
          | (go_at_call 18; refine (refFlex_any (H2.out.1.below HZF.out) HF.out b (by omega)).mono ?_; rintro e wA ⟨vA, rfl, hoA, hbA⟩; rw [← HX.out, ← ints_length ts] at hoA; have HRA := hid (ownsRow_reads hoA); have HSA := hid (HSF.out.below hbA); have HOA := hid (ownsRow_below HOF.out hbA); have HZA := hid (HZF.out.trans (hbA.mono HZF.out.size)); clear hoA hbA)
          | (go_at_call 17; refine (sameInts_any (xs := ints ts) (ys := ints ts) (ownsRow_reads HOA.out) HRA.out (by rw [ints_length]; omega) (by rw [ints_length]; omega)).mono ?_; rintro e wB ⟨rfl, hbB⟩; rw [decide_eq_true rfl]; have HSB := hid (HSA.out.below hbB); have HRB := hid (ownsRow_reads (ownsRow_below HOA.out hbB)); have HZB := hid (HZA.out.trans (hbB.mono HZA.out.size)); clear hbB)
          | (go_at_call 19; refine (says_any (H2.out.1.below HZB.out) (by omega) HRB.out (by omega) (by rw [HX.out]; exact xA_tokens HF.out b) b (by omega) (by rw [HX.out]; exact xA_means HF.out b)).mono ?_; rintro e wC ⟨rfl, hbC⟩; have HSC := hid (HSB.out.below hbC); have HZC := hid (HZB.out.trans (hbC.mono HZB.out.size)); clear hbC)
          | (go_at_call 20; refine (ShelfP.apart HSC.out (by omega) HZC.out.size).mono ?_; rintro e wD ⟨rfl, hbD⟩; have HBD := hid (HB2.out.trans ((HZC.out.trans hbD).mono HB2.out.size)); clear hbD))
        go_ret
        exact ⟨by simp, HBD.out⟩
  · have HFits := hid hfits
    clear hfits
    go_enter Try.func3, Try.ntmps3
    go_wp2_with (first
      | (go_at_call 8; refine (dict_no H.out HFits.out).mono ?_; rintro e w1 ⟨rfl, rfl⟩)
      | (go_at_call 9; refine (alive_14 _).mono ?_; rintro e w2 ⟨rfl, hb2⟩))
    go_ret
    exact ⟨rfl, hb2⟩

set_option linter.unusedVariables false
theorem flexTells_own : ownKnob Try.prog.godebug = none := by kernel_rfl

theorem flexTells_laidOut : laidOutB Try.prog = true := by kernel_rfl

set_option maxRecDepth 100000 in
theorem flexTells_lifted (os : Os) (started : os.Started) (H : Type) (enc : TypeId × Value → H) :
    ReturnsInHanded {} Try.checked os 3 .any (Rows.flexTellsSpec.pre6 enc Try.prog Try.f3 Rows.flexTellsRow.domain false) (Rows.flexTellsSpec.post enc Try.prog Try.f3 false true false false) := by
  refine returnsInHanded_of_change_sized (C := Try.checked) flexTells_own started (by kernel_rfl) Try.func3
    (ChangeSpec.witness6 (enc := enc) (C := Try.checked) false ⟨#[], #[.slice none 0 0, .string ByteArray.empty, .int .i64 0, .int .i64 0], []⟩ 8 (by kernel_rfl) (by kernel_rfl) (by kernel_rfl) (by kernel_rfl)) ?_
  intro W base args ds gs before hval0 hW hcnd hsz0 _
  have hsz : (DataW.weightsEach Try.prog (Try.f3.params.toList ++ Rows.flexTellsSpec.plain.varTypes Try.prog) (ds ++ gs)).all (· ≤ reachBytes) = true := hsz0
  have hval : ∀ (j : Nat) t v, Try.f3.params[j]? = some t → args[j]? = some v → Value.okWide Try.prog W .any base t v := hval0
  have hW' := hW
  obtain ⟨p, q, hA0, hV, rfl, hfz, hnd⟩ := hW
  have hA : DataW.TrodAll enc Try.prog W 0 (fun _ => true) true Try.f3.params.toList args.toList ds p := hA0
  rw [Try.params3] at hA hval hsz
  obtain ⟨v0, vs0, d0, ds0, p0, q0, hargs, rfl, rfl, h0, r0⟩ := trodAll_cons hA
  obtain ⟨v1, vs1, d1, ds1, p1, q1, rfl, rfl, rfl, h1, r1⟩ := trodAll_cons r0
  obtain ⟨v2, vs2, d2, ds2, p2, q2, rfl, rfl, rfl, h2, r2⟩ := trodAll_cons r1
  obtain ⟨v3, vs3, d3, ds3, p3, q3, rfl, rfl, rfl, h3, r3⟩ := trodAll_cons r2
  obtain ⟨rfl, rfl, rfl⟩ := trodAll_nil r3
  obtain rfl : args = #[v0, v1, v2, v3] := by cases args; simp_all
  obtain ⟨rfl, rfl⟩ := trodVars_none hV
  obtain ⟨a0, len0, cap0, rfl⟩ := okWide_slice Try.underlying22 (hval 0 22 v0 rfl rfl)
  have k0 := h0
  have lt0 : ∀ x ∈ p0, x.block < W.heap.size := by obtain ⟨m, hm⟩ := k0; exact DataW.trod_lt m _ _ _ hm
  obtain ⟨z0, w0⟩ := h0.elim (fun _ hf => open_list hf hsz 0 rfl rfl)
  obtain ⟨a1, rfl, rfl, rfl, w1⟩ := open_string Try.underlying9 (hval 1 9 v1 rfl rfl) h1
  obtain ⟨a2, rfl, rfl, rfl, w2⟩ := open_int Try.underlying3 (hval 2 3 v2 rfl rfl) h2
  obtain ⟨a3, rfl, rfl, rfl, w3⟩ := open_int Try.underlying3 (hval 3 3 v3 rfl rfl) h3
  clear hA0 hval0
  have s1 : a1.size ≤ 140737488351232 := by have h := sized_string hsz (j := 1) (t := 9) rfl rfl; rw [Array.length_toList] at h; exact h
  refine (tells_walk _ z0 a1 a2 a3 (word_of w2) (word_of w3) W w0).mono fun e W' ⟨he, bel⟩ => ?_
  subst he
  exact ⟨_, rfl, _, _, _, [], _, [], hW', trodAll_mk1 (shut_bool Try.underlying4 _), (trodAll_cons_mk (Below.trod flexTells_laidOut (by kernel_rfl) (of_decide_eq_true (by kernel_rfl)) k0 bel lt0) (trodAll_cons_mk (shut_string Try.underlying9 w1) (trodAll_cons_mk (shut_int Try.underlying3 w2) (trodAll_cons_mk (shut_int Try.underlying3 w3) trodAll_mk0)))), rfl, bel.frame _, fun h => by cases h⟩

/-- THE STATEMENT. -/
theorem flexTells_holds : Rows.FlexTellsSaid :=
  OpenClaim.holds_of_wide 3 Try.f3 rfl rfl rfl rfl rfl rfl rfl ⟨rfl, rfl, rfl, rfl, rfl⟩ rfl rfl rfl rfl rfl (by kernel_rfl) Try.func3 (by kernel_rfl)
    (of_decide_eq_true (by kernel_rfl)) (by unfold Func.isWrapper; first | (rw [if_pos (by decide +kernel)]; kernel_rfl) | (rw [if_neg (by decide +kernel)]; exact ⟨rfl, rfl⟩))
    (fun os started H enc _ => flexTells_lifted os started H enc)
#print axioms flexTells_holds
end Go.Proofs.Ythgpacpahljabaa
