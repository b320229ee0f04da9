/-
  BestTells: of every dictionary, every bytes, every window: the tokens, which mean these bytes; what it costs from each place on; the lists are apart. For every list of texts, every bytes, every number.
  No condition: whatever the input, in whatever memory; the arguments read as before.
-/
import Derived.Test.YtdplflcaanmmiaaGreatAlive15
import Derived.Test.YtdplflcaanmmiaaGreatRefB
import Derived.Test.YtdplflcaanmmiaaGreatShelfQ
import Derived.ShutString
import Derived.ChangeOld
import Derived.SizedLaws
namespace Go.Proofs.YtdplflcaanmmiaaGreat
open Go.ChangeShapes Go.WideShapes Go.ChangeAt Go.RowKit
open Go.ChangeMaps (open_string shut_string)

/-- Costs as whole numbers. -/
def asC (cs : List (Nat × Nat)) : List (Int × Int) := cs.map (fun c => ((c.1 : Int), (c.2 : Int)))
theorem asC_length (cs : List (Nat × Nat)) : (asC cs).length = cs.length := by simp [asC]
theorem ccells_asC (cs : List (Nat × Nat)) : ccells (asC cs) = cNs cs := by
  unfold ccells asC cNs
  rw [List.map_map]
  refine List.map_congr_left (fun c _ => ?_)
  show cval _ = cN _
  unfold cval cN
  rw [iN_nat, iN_nat]
theorem asC_small {cs : List (Nat × Nat)} (h : ∀ c ∈ cs, c.1 ≤ 1000 ∧ c.2 ≤ 40000) : SmallC (asC cs) := by
  intro c hc
  obtain ⟨d, hd, rfl⟩ := List.mem_map.1 hc
  have := h d hd
  simp only [Int.natAbs_natCast]
  omega

theorem cost_cell {w : World} {B g N cap : Nat} {L : List ByteArray} {y : List Nat} (h : w.ownsRow B 43 1 (.slice (some ⟨g, 0, none⟩) N cap) N (cNs (bCs L y))) (k : Nat) (hk : k ≤ y.length) : w.cell? ⟨g, k, none⟩ = some (.complex .f64 (fN (bC L (y.drop k)).1) (fN (bC L (y.drop k)).2)) := by
  have hN : (bCs L y).length = y.length + 1 := bCs_length L y
  have h1 := h.1
  rw [cNs_length, hN] at h1
  have h2 := h.cellAt k (by omega)
  rw [h2, cNs_at _ k (by omega)]
  have h3 := bCs_at L y k hk
  rw [List.getD_eq_getElem?_getD, List.getElem?_eq_getElem (by omega), Option.getD_some] at h3
  rw [h3]
  rfl

set_option maxRecDepth 20000 in
set_option maxHeartbeats 8000000 in
theorem tells_walk (v : Value) (L : List ByteArray) (b : ByteArray) (win : Int) (w : World) (h : ListIn w v L) :
    Calls Tryz.prog 3 #[v, .string b, .int .i64 win] w fun e w' => e = .returned (.bool true) ∧ Below w.heap.size w w' := by
  have H := hid h
  clear h
  by_cases hfits : Fits L (b)
  · obtain ⟨_, h400, hF⟩ := id hfits
    have HF := hid hF
    have hl100 := hF.1
    have HFits := hid hfits
    clear hF hfits
    obtain ⟨cs, hcs⟩ : ∃ cs, cs = bCs L (nums b) := ⟨_, rfl⟩
    have HT := hid (txt_nums b (by omega))
    have HAL : Hid ((asC cs).length = b.size + 1) := by show _ = _; rw [asC_length, hcs, bCs_length, nums_length]
    have HCC := hid (ccells_asC cs)
    have HSM : Hid (SmallC (asC cs)) := by show SmallC _; rw [hcs]; exact asC_small (bCs_small (phrases_short HF.out) HT.out)
    have HY := hid hcs
    have hl1000 : L.length ≤ 1000 := by omega
    have hbb : ((b.size : Int) + 1 != ((b.size : Int) + 1)) = false := by simp
    have hwb := Go.IntWalk.i64_in ((b.size : Int) + 1) (by omega)
    clear hcs

    by_cases hoff : win < 1 ∨ 1024 < win
    · by_cases h1 : win < 1
      · have e1 : decide (win < 1) = true := decide_eq_true h1
        have HQL : Hid ((ints ([] : List Nat)).length ≤ 50000) := by show _ ≤ _; simp [ints]
        go_enter Tryz.func3, Tryz.ntmps3
        go_wp2_with (first
          | (go_at_call 5; refine (dict_fits H.out HFits.out).mono ?_; rintro e w1 ⟨p, rfl, hd1, hb1⟩; have HD1 := hid hd1; have H1 := hid (H.out.below hb1); have HB1 := hid hb1; clear hd1 hb1)
          | (go_at_call 6; refine (alive_15 _).mono ?_; rintro e w2 ⟨rfl, hb2⟩; have H2 := hid (H1.out.below hb2); have HD2 := hid (HD1.out.below hb2); have HB2 := hid (HB1.out.trans (hb2.mono HB1.out.size)); clear hb2)
          | (have _h := HO9; go_at_call 10; refine (ShelfQ.newC (X := asC cs) HS8.out (by omega) HB9.out (by rw [HAL.out, HCC.out]; exact HO9.out) (by rw [HAL.out]; omega) HSM.out HZ8.out.size).mono ?_; rintro e w10 ⟨rfl, hs10, hb10, hr10⟩; have HS10 := hid hs10; have HP10 := hid (ownsRow_rest (ownsRow_below HP8.out HB9.out) hr10 (by decide) (by decide)); have HC10 := hid (ownsRow_rest (ownsRow_below HC8.out HB9.out) hr10 (by decide) (by decide)); have HZ10 := hid ((HZ8.out.trans (HB9.out.mono HZ8.out.size)).trans hb10); clear hs10 hb10 hr10 HS8 HP8 HC8 HZ8 HB9 HO9 _h)
          | (have _h := HS8; go_at_call 8; refine (costsB_any (HD2.out.below HZ8.out) HF.out b (by omega)).mono ?_; rintro e w9 ⟨v9, rfl, ho9, hb9⟩; rw [← HY.out] at ho9; have HB9 := hid hb9; have HO9 := hid ho9; clear ho9 hb9 _h)
          | (go_at_call 10; refine (ShelfQ.firstC (X := asC cs) HS7.out (by rw [HAL.out, HCC.out]; exact HC7.out) (by rw [HAL.out]; omega) HSM.out HZ7.out.size).mono ?_; rintro e w8 ⟨rfl, hs8, hb8, hr8⟩; have HS8 := hid hs8; have HP8 := hid (ownsRow_rest HP7.out hr8 (by decide) (by decide)); have HC8 := hid (ownsRow_rest HC7.out hr8 (by decide) (by decide)); have HZ8 := hid (HZ7.out.trans hb8); clear hs8 hb8 hr8 HP7 HC7 HS7)
          | (have _h := HO6; go_at_call 9; refine (ShelfQ.newI HS5.out (by omega) HB6.out HO6.out HQL.out HZ5.out.size).mono ?_; rintro e w7 ⟨rfl, hs7, hb7, hr7⟩; have HS7 := hid hs7; have HP7 := hid (ownsRow_rest (ownsRow_below HP5.out HB6.out) hr7 (by decide) (by decide)); have HC7 := hid (ownsRow_rest (ownsRow_below HC5.out HB6.out) hr7 (by decide) (by decide)); have HZ7 := hid ((HZ5.out.trans (HB6.out.mono HZ5.out.size)).trans hb7); clear hs7 hb7 hr7 HS5 HP5 HC5 HZ5 HB6 HO6 _h)
          | (have _h := HS5; go_at_call 7; refine (parseB_off _ _ b win (by omega) hoff).mono ?_; rintro e w6 ⟨rfl, hw6⟩; have HB6 := hid (show Below w5.heap.size w5 w6 by rw [hw6]; exact Below.refl _ _); have HO6 : Hid (w6.ownsRow w5.heap.size 3 1 (.slice none 0 0) (ints ([] : List Nat)).length (nats (ints ([] : List Nat)))) := World.ownsRow_nil _ _ _ _; clear hw6 _h)
          | (go_at_call 9; have hal : Below w4.heap.size w4 (w4.alloc (.cells #[.slice none 0 0, .slice none 0 0, .slice none 0 0, .slice none 0 0, .slice none 0 0, .slice none 0 0, .slice none 0 0, .slice none 0 0, .slice none 0 0, .slice none 0 0] 38)) := (Below.refl _ _).alloc (Nat.le_refl _) _; refine (ShelfQ.firstI (shelfQ_new w4 w2.heap.size HZ4.out.size) (ownsRow_below HP4.out hal) HQL.out (Nat.le_trans HZ4.out.size hal.size)).mono ?_; rintro e w5 ⟨rfl, hs5, hb5, hr5⟩; have HS5 := hid hs5; have HP5 := hid (ownsRow_rest (ownsRow_below HP4.out hal) hr5 (by decide) (by decide)); have HC5 := hid (ownsRow_rest (ownsRow_below HC4.out hal) hr5 (by decide) (by decide)); have HZ5 := hid ((HZ4.out.trans (hal.mono HZ4.out.size)).trans hb5); clear hs5 hb5 hr5 hal HP4 HC4)
          | (go_at_call 8; refine (costsB_any HD3.out HF.out b (by omega)).mono ?_; rintro e w4 ⟨v4, rfl, ho4, hb4⟩; rw [← HY.out] at ho4; obtain ⟨gc, capc, rfl, _, _⟩ := ho4.form (by omega); have HC4 := hid (ownsRow_lower ho4 HZ3.out.size); have HP4 := hid (ownsRow_below HP3.out hb4); have HZ4 := hid (HZ3.out.trans (hb4.mono HZ3.out.size)); clear ho4 hb4)
          | (go_at_call 7; refine (parseB_off _ _ b win (by omega) hoff).mono ?_; rintro e w3 ⟨rfl, hw3⟩; have HP3 : Hid (w3.ownsRow w2.heap.size 3 1 (.slice none 0 0) (ints ([] : List Nat)).length (nats (ints ([] : List Nat)))) := World.ownsRow_nil _ _ _ _; have HZ3 := hid (show Below w2.heap.size w2 w3 by rw [hw3]; exact Below.refl _ _); have HD3 := hid (HD2.out.below HZ3.out); clear hw3)
          | (go_at_call 11; refine (refCosts_any (H2.out.1.below HZ10.out) HF.out b (by omega)).mono ?_; rintro e w11 ⟨g1, g2, rfl, _, _, hr1, hr2, hb11⟩; have HR1 := hid hr1; have HR2 := hid hr2; have HS11 := hid (HS10.out.below hb11); have HP11 := hid (ownsRow_below HP10.out hb11); have HC11 := hid (ownsRow_below HC10.out hb11); have HZ11 := hid (HZ10.out.trans (hb11.mono HZ10.out.size)); clear hr1 hr2 hb11 HS10 HP10 HC10))
        go_loopw [69] (fun vi wr => ∃ i : Nat, vi = .int .i64 i ∧ i ≤ b.size + 1 ∧ Hid (Below w11.heap.size w11 wr)) (fun vi _ => b.size + 1 - (intOf vi).toNat)
        case atStart => exact ⟨0, rfl, by omega, Below.refl _ _⟩
        case round =>
          obtain ⟨i, rfl, hi, hbr⟩ := hrel
          by_cases hin : i < b.size + 1
          · have hdi : decide ((i : Int) < (b.size : Int) + 1) = true := decide_eq_true (by omega)
            have hlt2 : (i : Int) < (b.size : Int) + 1 := by omega
            have hxi : (decide ((0 : Int) ≤ (i : Int) ∧ (i : Int) < (b.size : Int) + 1)) = true := decide_eq_true ⟨by omega, by omega⟩
            have hc := HC11.out
            rw [HY.out] at hc
            have c1 := keeps hbr.out _ _ (cost_cell hc i (by rw [nums_length]; omega))
            have c2 := keeps hbr.out _ _ (HR1.out.cell hin)
            have c3 := keeps hbr.out _ _ (HR2.out.cell hin)
            have hsm := bC_small (phrases_short HF.out) (HT.out.drop i)
            have hsm2 := (HT.out.drop i).2
            obtain ⟨⟨p, q⟩, hpq⟩ : ∃ d, d = bC L ((nums b).drop i) := ⟨_, rfl⟩
            rw [← hpq] at c1 c2 c3 hsm
            dsimp only at c1 c2 c3 hsm
            have o1 : (FloatKind.f64.format.order (fN p) (fN p) == some .eq) = true := by rw [eq_fN p p (by omega) (by omega), decide_eq_true rfl]
            have o2 : (FloatKind.f64.format.order (fN q) (fN q) == some .eq) = true := by rw [eq_fN q q (by omega) (by omega), decide_eq_true rfl]
            have v1 := fun W => conv_fN W p
            have v2 := fun W => conv_fN W q
            clear hpq hc
            go_wp2_with fail
            go_quiet (fail)
            go_wp2
            go_roundw
            case rel => exact ⟨i + 1, by go_num, by omega, hbr.out.trans (drewN_below _ _ _)⟩
            case measure => simp [intOf]; omega
          · obtain rfl : i = b.size + 1 := by omega
            have hdi : decide ((b.size : Int) + 1 < (b.size : Int) + 1) = false := decide_eq_false (by omega)
            have HSR := hid (HS11.out.below hbr.out)
            have HPR := hid (ownsRow_below HP11.out hbr.out)
            have HZR := hid (HZ11.out.trans (hbr.out.mono HZ11.out.size))
            go_wp2_with (go_at_call 12; refine (ShelfQ.apart HSR.out (by omega) (by omega) HZR.out.size).mono ?_; rintro e wD ⟨rfl, hbD⟩; have HBD := hid (HB2.out.trans ((HZR.out.trans hbD).mono HB2.out.size)); clear hbD)
            go_ret
            exact ⟨by simp, HBD.out⟩
      · have e1 : decide (win < 1) = false := decide_eq_false h1
        have e3 : decide (1024 < win) = true := decide_eq_true (by omega)
        have HQL : Hid ((ints ([] : List Nat)).length ≤ 50000) := by show _ ≤ _; simp [ints]
        go_enter Tryz.func3, Tryz.ntmps3
        go_wp2_with (first
          | (go_at_call 5; refine (dict_fits H.out HFits.out).mono ?_; rintro e w1 ⟨p, rfl, hd1, hb1⟩; have HD1 := hid hd1; have H1 := hid (H.out.below hb1); have HB1 := hid hb1; clear hd1 hb1)
          | (go_at_call 6; refine (alive_15 _).mono ?_; rintro e w2 ⟨rfl, hb2⟩; have H2 := hid (H1.out.below hb2); have HD2 := hid (HD1.out.below hb2); have HB2 := hid (HB1.out.trans (hb2.mono HB1.out.size)); clear hb2)
          | (have _h := HO9; go_at_call 10; refine (ShelfQ.newC (X := asC cs) HS8.out (by omega) HB9.out (by rw [HAL.out, HCC.out]; exact HO9.out) (by rw [HAL.out]; omega) HSM.out HZ8.out.size).mono ?_; rintro e w10 ⟨rfl, hs10, hb10, hr10⟩; have HS10 := hid hs10; have HP10 := hid (ownsRow_rest (ownsRow_below HP8.out HB9.out) hr10 (by decide) (by decide)); have HC10 := hid (ownsRow_rest (ownsRow_below HC8.out HB9.out) hr10 (by decide) (by decide)); have HZ10 := hid ((HZ8.out.trans (HB9.out.mono HZ8.out.size)).trans hb10); clear hs10 hb10 hr10 HS8 HP8 HC8 HZ8 HB9 HO9 _h)
          | (have _h := HS8; go_at_call 8; refine (costsB_any (HD2.out.below HZ8.out) HF.out b (by omega)).mono ?_; rintro e w9 ⟨v9, rfl, ho9, hb9⟩; rw [← HY.out] at ho9; have HB9 := hid hb9; have HO9 := hid ho9; clear ho9 hb9 _h)
          | (go_at_call 10; refine (ShelfQ.firstC (X := asC cs) HS7.out (by rw [HAL.out, HCC.out]; exact HC7.out) (by rw [HAL.out]; omega) HSM.out HZ7.out.size).mono ?_; rintro e w8 ⟨rfl, hs8, hb8, hr8⟩; have HS8 := hid hs8; have HP8 := hid (ownsRow_rest HP7.out hr8 (by decide) (by decide)); have HC8 := hid (ownsRow_rest HC7.out hr8 (by decide) (by decide)); have HZ8 := hid (HZ7.out.trans hb8); clear hs8 hb8 hr8 HP7 HC7 HS7)
          | (have _h := HO6; go_at_call 9; refine (ShelfQ.newI HS5.out (by omega) HB6.out HO6.out HQL.out HZ5.out.size).mono ?_; rintro e w7 ⟨rfl, hs7, hb7, hr7⟩; have HS7 := hid hs7; have HP7 := hid (ownsRow_rest (ownsRow_below HP5.out HB6.out) hr7 (by decide) (by decide)); have HC7 := hid (ownsRow_rest (ownsRow_below HC5.out HB6.out) hr7 (by decide) (by decide)); have HZ7 := hid ((HZ5.out.trans (HB6.out.mono HZ5.out.size)).trans hb7); clear hs7 hb7 hr7 HS5 HP5 HC5 HZ5 HB6 HO6 _h)
          | (have _h := HS5; go_at_call 7; refine (parseB_off _ _ b win (by omega) hoff).mono ?_; rintro e w6 ⟨rfl, hw6⟩; have HB6 := hid (show Below w5.heap.size w5 w6 by rw [hw6]; exact Below.refl _ _); have HO6 : Hid (w6.ownsRow w5.heap.size 3 1 (.slice none 0 0) (ints ([] : List Nat)).length (nats (ints ([] : List Nat)))) := World.ownsRow_nil _ _ _ _; clear hw6 _h)
          | (go_at_call 9; have hal : Below w4.heap.size w4 (w4.alloc (.cells #[.slice none 0 0, .slice none 0 0, .slice none 0 0, .slice none 0 0, .slice none 0 0, .slice none 0 0, .slice none 0 0, .slice none 0 0, .slice none 0 0, .slice none 0 0] 38)) := (Below.refl _ _).alloc (Nat.le_refl _) _; refine (ShelfQ.firstI (shelfQ_new w4 w2.heap.size HZ4.out.size) (ownsRow_below HP4.out hal) HQL.out (Nat.le_trans HZ4.out.size hal.size)).mono ?_; rintro e w5 ⟨rfl, hs5, hb5, hr5⟩; have HS5 := hid hs5; have HP5 := hid (ownsRow_rest (ownsRow_below HP4.out hal) hr5 (by decide) (by decide)); have HC5 := hid (ownsRow_rest (ownsRow_below HC4.out hal) hr5 (by decide) (by decide)); have HZ5 := hid ((HZ4.out.trans (hal.mono HZ4.out.size)).trans hb5); clear hs5 hb5 hr5 hal HP4 HC4)
          | (go_at_call 8; refine (costsB_any HD3.out HF.out b (by omega)).mono ?_; rintro e w4 ⟨v4, rfl, ho4, hb4⟩; rw [← HY.out] at ho4; obtain ⟨gc, capc, rfl, _, _⟩ := ho4.form (by omega); have HC4 := hid (ownsRow_lower ho4 HZ3.out.size); have HP4 := hid (ownsRow_below HP3.out hb4); have HZ4 := hid (HZ3.out.trans (hb4.mono HZ3.out.size)); clear ho4 hb4)
          | (go_at_call 7; refine (parseB_off _ _ b win (by omega) hoff).mono ?_; rintro e w3 ⟨rfl, hw3⟩; have HP3 : Hid (w3.ownsRow w2.heap.size 3 1 (.slice none 0 0) (ints ([] : List Nat)).length (nats (ints ([] : List Nat)))) := World.ownsRow_nil _ _ _ _; have HZ3 := hid (show Below w2.heap.size w2 w3 by rw [hw3]; exact Below.refl _ _); have HD3 := hid (HD2.out.below HZ3.out); clear hw3)
          | (go_at_call 11; refine (refCosts_any (H2.out.1.below HZ10.out) HF.out b (by omega)).mono ?_; rintro e w11 ⟨g1, g2, rfl, _, _, hr1, hr2, hb11⟩; have HR1 := hid hr1; have HR2 := hid hr2; have HS11 := hid (HS10.out.below hb11); have HP11 := hid (ownsRow_below HP10.out hb11); have HC11 := hid (ownsRow_below HC10.out hb11); have HZ11 := hid (HZ10.out.trans (hb11.mono HZ10.out.size)); clear hr1 hr2 hb11 HS10 HP10 HC10))
        go_loopw [69] (fun vi wr => ∃ i : Nat, vi = .int .i64 i ∧ i ≤ b.size + 1 ∧ Hid (Below w11.heap.size w11 wr)) (fun vi _ => b.size + 1 - (intOf vi).toNat)
        case atStart => exact ⟨0, rfl, by omega, Below.refl _ _⟩
        case round =>
          obtain ⟨i, rfl, hi, hbr⟩ := hrel
          by_cases hin : i < b.size + 1
          · have hdi : decide ((i : Int) < (b.size : Int) + 1) = true := decide_eq_true (by omega)
            have hlt2 : (i : Int) < (b.size : Int) + 1 := by omega
            have hxi : (decide ((0 : Int) ≤ (i : Int) ∧ (i : Int) < (b.size : Int) + 1)) = true := decide_eq_true ⟨by omega, by omega⟩
            have hc := HC11.out
            rw [HY.out] at hc
            have c1 := keeps hbr.out _ _ (cost_cell hc i (by rw [nums_length]; omega))
            have c2 := keeps hbr.out _ _ (HR1.out.cell hin)
            have c3 := keeps hbr.out _ _ (HR2.out.cell hin)
            have hsm := bC_small (phrases_short HF.out) (HT.out.drop i)
            have hsm2 := (HT.out.drop i).2
            obtain ⟨⟨p, q⟩, hpq⟩ : ∃ d, d = bC L ((nums b).drop i) := ⟨_, rfl⟩
            rw [← hpq] at c1 c2 c3 hsm
            dsimp only at c1 c2 c3 hsm
            have o1 : (FloatKind.f64.format.order (fN p) (fN p) == some .eq) = true := by rw [eq_fN p p (by omega) (by omega), decide_eq_true rfl]
            have o2 : (FloatKind.f64.format.order (fN q) (fN q) == some .eq) = true := by rw [eq_fN q q (by omega) (by omega), decide_eq_true rfl]
            have v1 := fun W => conv_fN W p
            have v2 := fun W => conv_fN W q
            clear hpq hc
            go_wp2_with fail
            go_quiet (fail)
            go_wp2
            go_roundw
            case rel => exact ⟨i + 1, by go_num, by omega, hbr.out.trans (drewN_below _ _ _)⟩
            case measure => simp [intOf]; omega
          · obtain rfl : i = b.size + 1 := by omega
            have hdi : decide ((b.size : Int) + 1 < (b.size : Int) + 1) = false := decide_eq_false (by omega)
            have HSR := hid (HS11.out.below hbr.out)
            have HPR := hid (ownsRow_below HP11.out hbr.out)
            have HZR := hid (HZ11.out.trans (hbr.out.mono HZ11.out.size))
            go_wp2_with (go_at_call 12; refine (ShelfQ.apart HSR.out (by omega) (by omega) HZR.out.size).mono ?_; rintro e wD ⟨rfl, hbD⟩; have HBD := hid (HB2.out.trans ((HZR.out.trans hbD).mono HB2.out.size)); clear hbD)
            go_ret
            exact ⟨by simp, HBD.out⟩
    ·
      obtain ⟨n, rfl⟩ : ∃ n : Nat, win = (n : Int) := ⟨win.toNat, by omega⟩
      have hn1 : 1 ≤ n := by omega
      have hn2 : n ≤ 1024 := by omega
      have e1 : decide ((n : Int) < 1) = false := decide_eq_false (by omega)
      have e3 : decide ((1024 : Int) < (n : Int)) = false := decide_eq_false (by omega)
      obtain ⟨ts, hts⟩ : ∃ ts, ts = bW L n (nums b) := ⟨_, rfl⟩
      have htl : ts.length ≤ 400 := by rw [hts]; have := bW_few HF.out hn1 HT.out; rw [nums_length] at this; omega
      have hmm := bW_means HF.out hn1 HT.out
      rw [← hts] at hmm
      have HMM := hid hmm.1
      have HTT := hid hmm.2
      have HX := hid hts
      have HQL : Hid ((ints ts).length ≤ 50000) := by show _ ≤ _; rw [ints_length]; omega
      clear hts hmm hoff
      go_enter Tryz.func3, Tryz.ntmps3
      go_wp2_with (first
        | (go_at_call 5; refine (dict_fits H.out HFits.out).mono ?_; rintro e w1 ⟨p, rfl, hd1, hb1⟩; have HD1 := hid hd1; have H1 := hid (H.out.below hb1); have HB1 := hid hb1; clear hd1 hb1)
        | (go_at_call 6; refine (alive_15 _).mono ?_; rintro e w2 ⟨rfl, hb2⟩; have H2 := hid (H1.out.below hb2); have HD2 := hid (HD1.out.below hb2); have HB2 := hid (HB1.out.trans (hb2.mono HB1.out.size)); clear hb2)
        | (have _h := HO9; go_at_call 10; refine (ShelfQ.newC (X := asC cs) HS8.out (by omega) HB9.out (by rw [HAL.out, HCC.out]; exact HO9.out) (by rw [HAL.out]; omega) HSM.out HZ8.out.size).mono ?_; rintro e w10 ⟨rfl, hs10, hb10, hr10⟩; have HS10 := hid hs10; have HP10 := hid (ownsRow_rest (ownsRow_below HP8.out HB9.out) hr10 (by decide) (by decide)); have HC10 := hid (ownsRow_rest (ownsRow_below HC8.out HB9.out) hr10 (by decide) (by decide)); have HZ10 := hid ((HZ8.out.trans (HB9.out.mono HZ8.out.size)).trans hb10); clear hs10 hb10 hr10 HS8 HP8 HC8 HZ8 HB9 HO9 _h)
        | (have _h := HS8; go_at_call 8; refine (costsB_any (HD2.out.below HZ8.out) HF.out b (by omega)).mono ?_; rintro e w9 ⟨v9, rfl, ho9, hb9⟩; rw [← HY.out] at ho9; have HB9 := hid hb9; have HO9 := hid ho9; clear ho9 hb9 _h)
        | (go_at_call 10; refine (ShelfQ.firstC (X := asC cs) HS7.out (by rw [HAL.out, HCC.out]; exact HC7.out) (by rw [HAL.out]; omega) HSM.out HZ7.out.size).mono ?_; rintro e w8 ⟨rfl, hs8, hb8, hr8⟩; have HS8 := hid hs8; have HP8 := hid (ownsRow_rest HP7.out hr8 (by decide) (by decide)); have HC8 := hid (ownsRow_rest HC7.out hr8 (by decide) (by decide)); have HZ8 := hid (HZ7.out.trans hb8); clear hs8 hb8 hr8 HP7 HC7 HS7)
        | (have _h := HO6; go_at_call 9; refine (ShelfQ.newI HS5.out (by omega) HB6.out HO6.out HQL.out HZ5.out.size).mono ?_; rintro e w7 ⟨rfl, hs7, hb7, hr7⟩; have HS7 := hid hs7; have HP7 := hid (ownsRow_rest (ownsRow_below HP5.out HB6.out) hr7 (by decide) (by decide)); have HC7 := hid (ownsRow_rest (ownsRow_below HC5.out HB6.out) hr7 (by decide) (by decide)); have HZ7 := hid ((HZ5.out.trans (HB6.out.mono HZ5.out.size)).trans hb7); clear hs7 hb7 hr7 HS5 HP5 HC5 HZ5 HB6 HO6 _h)
        | (have _h := HS5; go_at_call 7; refine (parseB_any (HD2.out.below HZ5.out) HF.out b (by omega) n (by omega) (by omega)).mono ?_; rintro e w6 ⟨v6, rfl, ho6, hb6⟩; rw [← HX.out] at ho6; have HB6 := hid hb6; have HO6 := hid ho6; clear ho6 hb6 _h)
        | (go_at_call 9; have hal : Below w4.heap.size w4 (w4.alloc (.cells #[.slice none 0 0, .slice none 0 0, .slice none 0 0, .slice none 0 0, .slice none 0 0, .slice none 0 0, .slice none 0 0, .slice none 0 0, .slice none 0 0, .slice none 0 0] 38)) := (Below.refl _ _).alloc (Nat.le_refl _) _; refine (ShelfQ.firstI (shelfQ_new w4 w2.heap.size HZ4.out.size) (ownsRow_below HP4.out hal) HQL.out (Nat.le_trans HZ4.out.size hal.size)).mono ?_; rintro e w5 ⟨rfl, hs5, hb5, hr5⟩; have HS5 := hid hs5; have HP5 := hid (ownsRow_rest (ownsRow_below HP4.out hal) hr5 (by decide) (by decide)); have HC5 := hid (ownsRow_rest (ownsRow_below HC4.out hal) hr5 (by decide) (by decide)); have HZ5 := hid ((HZ4.out.trans (hal.mono HZ4.out.size)).trans hb5); clear hs5 hb5 hr5 hal HP4 HC4)
        | (go_at_call 8; refine (costsB_any HD3.out HF.out b (by omega)).mono ?_; rintro e w4 ⟨v4, rfl, ho4, hb4⟩; rw [← HY.out] at ho4; obtain ⟨gc, capc, rfl, _, _⟩ := ho4.form (by omega); have HC4 := hid (ownsRow_lower ho4 HZ3.out.size); have HP4 := hid (ownsRow_below HP3.out hb4); have HZ4 := hid (HZ3.out.trans (hb4.mono HZ3.out.size)); clear ho4 hb4)
        | (go_at_call 7; refine (parseB_any HD2.out HF.out b (by omega) n (by omega) (by omega)).mono ?_; rintro e w3 ⟨v3, rfl, ho3, hb3⟩; rw [← HX.out] at ho3; have HP3 := hid ho3; have HD3 := hid (HD2.out.below hb3); have HZ3 := hid hb3; clear ho3 hb3)
        | (go_at_call 11; refine (refCosts_any (H2.out.1.below HZ10.out) HF.out b (by omega)).mono ?_; rintro e w11 ⟨g1, g2, rfl, _, _, hr1, hr2, hb11⟩; have HR1 := hid hr1; have HR2 := hid hr2; have HS11 := hid (HS10.out.below hb11); have HP11 := hid (ownsRow_below HP10.out hb11); have HC11 := hid (ownsRow_below HC10.out hb11); have HZ11 := hid (HZ10.out.trans (hb11.mono HZ10.out.size)); clear hr1 hr2 hb11 HS10 HP10 HC10))
      go_loopw [69] (fun vi wr => ∃ i : Nat, vi = .int .i64 i ∧ i ≤ b.size + 1 ∧ Hid (Below w11.heap.size w11 wr)) (fun vi _ => b.size + 1 - (intOf vi).toNat)
      case atStart => exact ⟨0, rfl, by omega, Below.refl _ _⟩
      case round =>
        obtain ⟨i, rfl, hi, hbr⟩ := hrel
        by_cases hin : i < b.size + 1
        · have hdi : decide ((i : Int) < (b.size : Int) + 1) = true := decide_eq_true (by omega)
          have hlt2 : (i : Int) < (b.size : Int) + 1 := by omega
          have hxi : (decide ((0 : Int) ≤ (i : Int) ∧ (i : Int) < (b.size : Int) + 1)) = true := decide_eq_true ⟨by omega, by omega⟩
          have hc := HC11.out
          rw [HY.out] at hc
          have c1 := keeps hbr.out _ _ (cost_cell hc i (by rw [nums_length]; omega))
          have c2 := keeps hbr.out _ _ (HR1.out.cell hin)
          have c3 := keeps hbr.out _ _ (HR2.out.cell hin)
          have hsm := bC_small (phrases_short HF.out) (HT.out.drop i)
          have hsm2 := (HT.out.drop i).2
          obtain ⟨⟨p, q⟩, hpq⟩ : ∃ d, d = bC L ((nums b).drop i) := ⟨_, rfl⟩
          rw [← hpq] at c1 c2 c3 hsm
          dsimp only at c1 c2 c3 hsm
          have o1 : (FloatKind.f64.format.order (fN p) (fN p) == some .eq) = true := by rw [eq_fN p p (by omega) (by omega), decide_eq_true rfl]
          have o2 : (FloatKind.f64.format.order (fN q) (fN q) == some .eq) = true := by rw [eq_fN q q (by omega) (by omega), decide_eq_true rfl]
          have v1 := fun W => conv_fN W p
          have v2 := fun W => conv_fN W q
          clear hpq hc
          go_wp2_with fail
          go_quiet (fail)
          go_wp2
          go_roundw
          case rel => exact ⟨i + 1, by go_num, by omega, hbr.out.trans (drewN_below _ _ _)⟩
          case measure => simp [intOf]; omega
        · obtain rfl : i = b.size + 1 := by omega
          have hdi : decide ((b.size : Int) + 1 < (b.size : Int) + 1) = false := decide_eq_false (by omega)
          have HSR := hid (HS11.out.below hbr.out)
          have HPR := hid (ownsRow_below HP11.out hbr.out)
          have HZR := hid (HZ11.out.trans (hbr.out.mono HZ11.out.size))
          go_wp2_with (first
            | (go_at_call 14; refine (refBest_any (H2.out.1.below HZR.out) HF.out b (by omega) n (by omega) (by omega)).mono ?_; rintro e wA ⟨vA, rfl, hoA, hbA⟩; rw [← HX.out] at hoA; have HRA := hid (ownsRow_reads hoA); have HSA := hid (HSR.out.below hbA); have HOA := hid (ownsRow_below HPR.out hbA); have HZA := hid (HZR.out.trans (hbA.mono HZR.out.size)); clear hoA hbA)
            | (go_at_call 13; refine (sameInts_any (xs := ints ts) (ys := ints ts) (ownsRow_reads HOA.out) HRA.out (by rw [ints_length]; omega) (by rw [ints_length]; omega)).mono ?_; rintro e wB ⟨rfl, hbB⟩; rw [decide_eq_true rfl]; have HSB := hid (HSA.out.below hbB); have HRB := hid (ownsRow_reads (ownsRow_below HOA.out hbB)); have HZB := hid (HZA.out.trans (hbB.mono HZA.out.size)); clear hbB)
            | (go_at_call 15; refine (says_any (H2.out.1.below HZB.out) (by omega) HRB.out (by omega) HTT.out b (by omega) HMM.out).mono ?_; rintro e wC ⟨rfl, hbC⟩; have HSC := hid (HSB.out.below hbC); have HZC := hid (HZB.out.trans (hbC.mono HZB.out.size)); clear hbC)
            | (go_at_call 12; refine (ShelfQ.apart HSC.out (by omega) (by omega) HZC.out.size).mono ?_; rintro e wD ⟨rfl, hbD⟩; have HBD := hid (HB2.out.trans ((HZC.out.trans hbD).mono HB2.out.size)); clear hbD))
          go_ret
          exact ⟨by simp, HBD.out⟩
  · have HFits := hid hfits
    clear hfits
    go_enter Tryz.func3, Tryz.ntmps3
    go_wp2_with (first
      | (go_at_call 5; refine (dict_no H.out HFits.out).mono ?_; rintro e w1 ⟨rfl, rfl⟩)
      | (go_at_call 6; refine (alive_15 _).mono ?_; rintro e w2 ⟨rfl, hb2⟩))
    go_ret
    exact ⟨rfl, hb2⟩

set_option linter.unusedVariables false
theorem bestTells_own : ownKnob Tryz.prog.godebug = none := by kernel_rfl

theorem bestTells_laidOut : laidOutB Tryz.prog = true := by kernel_rfl

set_option maxRecDepth 100000 in
theorem bestTells_lifted (os : Os) (started : os.Started) (H : Type) (enc : TypeId × Value → H) :
    ReturnsInHanded {} Tryz.checked os 3 .any (Rows.bestTellsSpec.pre6 enc Tryz.prog Tryz.f3 Rows.bestTellsRow.domain false) (Rows.bestTellsSpec.post enc Tryz.prog Tryz.f3 false true false false) := by
  refine returnsInHanded_of_change_sized (C := Tryz.checked) bestTells_own started (by kernel_rfl) Tryz.func3
    (ChangeSpec.witness6 (enc := enc) (C := Tryz.checked) false ⟨#[], #[.slice none 0 0, .string ByteArray.empty, .int .i64 0], []⟩ 8 (by kernel_rfl) (by kernel_rfl) (by kernel_rfl) (by kernel_rfl)) ?_
  intro W base args ds gs before hval0 hW hcnd hsz0 _
  have hsz : (DataW.weightsEach Tryz.prog (Tryz.f3.params.toList ++ Rows.bestTellsSpec.plain.varTypes Tryz.prog) (ds ++ gs)).all (· ≤ reachBytes) = true := hsz0
  have hval : ∀ (j : Nat) t v, Tryz.f3.params[j]? = some t → args[j]? = some v → Value.okWide Tryz.prog W .any base t v := hval0
  have hW' := hW
  obtain ⟨p, q, hA0, hV, rfl, hfz, hnd⟩ := hW
  have hA : DataW.TrodAll enc Tryz.prog W 0 (fun _ => true) true Tryz.f3.params.toList args.toList ds p := hA0
  rw [Tryz.params3] at hA hval hsz
  obtain ⟨v0, vs0, d0, ds0, p0, q0, hargs, rfl, rfl, h0, r0⟩ := trodAll_cons hA
  obtain ⟨v1, vs1, d1, ds1, p1, q1, rfl, rfl, rfl, h1, r1⟩ := trodAll_cons r0
  obtain ⟨v2, vs2, d2, ds2, p2, q2, rfl, rfl, rfl, h2, r2⟩ := trodAll_cons r1
  obtain ⟨rfl, rfl, rfl⟩ := trodAll_nil r2
  obtain rfl : args = #[v0, v1, v2] := by cases args; simp_all
  obtain ⟨rfl, rfl⟩ := trodVars_none hV
  obtain ⟨a0, len0, cap0, rfl⟩ := okWide_slice Tryz.underlying22 (hval 0 22 v0 rfl rfl)
  have k0 := h0
  have lt0 : ∀ x ∈ p0, x.block < W.heap.size := by obtain ⟨m, hm⟩ := k0; exact DataW.trod_lt m _ _ _ hm
  obtain ⟨z0, w0⟩ := h0.elim (fun _ hf => open_list hf hsz 0 rfl rfl)
  obtain ⟨a1, rfl, rfl, rfl, w1⟩ := open_string Tryz.underlying9 (hval 1 9 v1 rfl rfl) h1
  obtain ⟨a2, rfl, rfl, rfl, w2⟩ := open_int Tryz.underlying3 (hval 2 3 v2 rfl rfl) h2
  clear hA0 hval0
  have s1 : a1.size ≤ 140737488351232 := by have h := sized_string hsz (j := 1) (t := 9) rfl rfl; rw [Array.length_toList] at h; exact h
  refine (tells_walk _ z0 a1 a2 W w0).mono fun e W' ⟨he, bel⟩ => ?_
  subst he
  exact ⟨_, rfl, _, _, _, [], _, [], hW', trodAll_mk1 (shut_bool Tryz.underlying4 _), (trodAll_cons_mk (Below.trod bestTells_laidOut (by kernel_rfl) (of_decide_eq_true (by kernel_rfl)) k0 bel lt0) (trodAll_cons_mk (shut_string Tryz.underlying9 w1) (trodAll_cons_mk (shut_int Tryz.underlying3 w2) trodAll_mk0))), rfl, bel.frame _, fun h => by cases h⟩

/-- THE STATEMENT. -/
theorem bestTells_holds : Rows.BestTellsSaid :=
  OpenClaim.holds_of_wide 3 Tryz.f3 rfl rfl rfl rfl rfl rfl rfl ⟨rfl, rfl, rfl, rfl, rfl⟩ rfl rfl rfl rfl rfl (by kernel_rfl) Tryz.func3 (by kernel_rfl)
    (of_decide_eq_true (by kernel_rfl)) (by unfold Func.isWrapper; first | (rw [if_pos (by decide +kernel)]; kernel_rfl) | (rw [if_neg (by decide +kernel)]; exact ⟨rfl, rfl⟩))
    (fun os started H enc _ => bestTells_lifted os started H enc)
#print axioms bestTells_holds
end Go.Proofs.YtdplflcaanmmiaaGreat
