/-
  HistTells: every tokens counted, and more: each count; what is handed in stays; the lists are apart. For every size, every two lists of numbers.
  No condition: whatever the input, in whatever memory; the arguments read as before.
-/
import Derived.Test.YtgmfjgiakgoofaaAlive17
import Derived.Test.YtgmfjgiakgoofaaHistBook
import Derived.Test.YtgmfjgiakgoofaaIntLent
import Derived.ChangeOld
namespace Go.Proofs.Ytgmfjgiakgoofaa
open Go.ChangeShapes Go.WideShapes Go.ChangeAt Go.RowKit

theorem addH_length (n : Nat) (xs ys : List Int) : (addH n xs ys).length ≤ n := by
  unfold addH
  split
  · rw [natH_length]; exact Nat.le_refl _
  · exact Nat.zero_le _

set_option maxRecDepth 20000 in
set_option maxHeartbeats 16000000 in
theorem tells_walk (s : Int) (a1 : Option Addr) (len1 cap1 : Nat) (z1 : Nat → Int) (a2 : Option Addr) (len2 cap2 : Nat) (z2 : Nat → Int) (w : World) (h1 : IsInts w a1 len1 z1) (h2 : IsInts w a2 len2 z2) :
    Calls Try.prog 3 #[.int .i64 s, .slice a1 len1 cap1, .slice a2 len2 cap2] w fun e w' => e = .returned (.bool true) ∧ Below w.heap.size w w' := by
  by_cases hl1 : len1 ≤ 400
  · have hd1 : decide ((400 : Int) < (len1 : Int)) = false := decide_eq_false (by omega)
    have hd1' : decide (400 < len1) = false := decide_eq_false (by omega)
    by_cases hl2 : len2 ≤ 400
    · have hd2 : decide ((400 : Int) < (len2 : Int)) = false := decide_eq_false (by omega)
      have hd2' : decide (400 < len2) = false := decide_eq_false (by omega)
      obtain ⟨X, hX⟩ : ∃ X, X = (List.range len1).map z1 := ⟨_, rfl⟩
      obtain ⟨Y, hY⟩ : ∃ Y, Y = (List.range len2).map z2 := ⟨_, rfl⟩
      have hXl : X.length = len1 := by rw [hX]; simp
      have hYl : Y.length = len2 := by rw [hY]; simp
      have hr1 := isInts_reads (cap := cap1) h1
      have hr2 := isInts_reads (cap := cap2) h2
      rw [← hX] at hr1
      rw [← hY] at hr2
      have HX := hid hr1
      have HY := hid hr2
      have HXL := hid hXl
      have HYL := hid hYl
      clear h1 h2 hr1 hr2 hX hY hXl hYl
      by_cases hs : 0 ≤ s ∧ s ≤ 356
      · obtain ⟨n, rfl⟩ : ∃ n : Nat, s = (n : Int) := ⟨s.toNat, by omega⟩
        have hn : n ≤ 356 := by omega
        have HN : Hid (n ≤ 356) := hn
        have hs0 : decide ((n : Int) < 0) = false := decide_eq_false (by omega)
        have hs1 : decide ((356 : Int) < (n : Int)) = false := decide_eq_false (by omega)
        have hmk := run_make_row' (P := Try.prog) 22 3 (.int .i64 0) 8 Try.underlying22 Try.infoInt rfl .i64 .i64 n (by omega) (by omega)
        obtain ⟨H, hH⟩ : ∃ H, H = addH n [] X := ⟨_, rfl⟩
        obtain ⟨E, hE⟩ : ∃ E, E = addE n X := ⟨_, rfl⟩
        have HLe : Hid (ofL (n : Int) X = H) := by show _ = _; rw [ofL_fits _ hn, hH]
        have HEe : Hid (ofE (n : Int) X = E) := by show _ = _; rw [ofE_fits _ hn, hE]
        have HH := hid hH
        have HE := hid hE
        clear hs hH hE
        go_enter Try.func3, Try.ntmps3
        go_wp2_with (first
          | (go_at_call 6; refine (alive_17 _).mono ?_; rintro e w1 ⟨rfl, hb1⟩; have HB1 := hid hb1; have HX1 := hid (HX.out.below hb1); clear hb1)
          | (go_at_call 7; refine (lentI_any HX1.out (by rw [HXL.out]; omega)).mono ?_; rintro e w2 ⟨gm, capm, rfl, ho2, hc2, hb2⟩; rw [HXL.out] at ho2 hc2 ⊢; have HM2 := hid ho2; have HC2 := hid hc2; have HB2 := hid (below_more HB1.out hb2); have HX2 := hid (HX1.out.below hb2); clear ho2 hc2 hb2)
          | (go_at_call 8; refine (of_any (ys := X) (n : Int) (lentI_reads HM2.out HXL.out) (by rw [HXL.out]; omega)).mono ?_; rintro e w3 ⟨v3, rfl, ho3, hb3⟩; rw [HLe.out] at ho3; rw [HEe.out]; have HV3 := hid ho3; clear ho3; have HZ3 := hid hb3; have HM3 := hid (ownsRow_below HM2.out hb3); have HX3 := hid (HX2.out.below hb3); clear hb3 HM2)
          | (go_at_call 9; refine (staysI_any HM3.out HC2.out HX3.out HXL.out (by omega)).mono ?_; rintro e w4 ⟨rfl, hb4⟩; have HZ4 := hid (HZ3.out.trans (hb4.mono HZ3.out.size)); have HX4 := hid (HX3.out.below hb4); have HV4 := hid (ownsRow_below HV3.out hb4); have HS4 := hid hb4.size; clear hb4 HM3))
        obtain ⟨G, hG⟩ : ∃ G, G = w4.heap.size := ⟨_, rfl⟩
        have HC5 : Hid ((w4.alloc (.cells (madeCells #[.int .i64 0] n) 3)).ownsRow G 3 1 (.slice (some ⟨G, 0, none⟩) n n) n (nats (natI (cntH n [])))) := by rw [hG]; exact made_row w4 n (by omega)
        have HB5 : Hid (Below G w4 (w4.alloc (.cells (madeCells #[.int .i64 0] n) 3))) := by rw [hG]; exact (Below.refl _ _).alloc (Nat.le_refl _) _
        rw [← hG]
        have HG := hid hG
        clear hG hmk
        go_loopw [10, 63] (fun vq vi wr => ∃ (i : Nat) (q : Int) (ys : List Int), vq = .int .i64 q ∧ vi = .int .i64 i ∧ i ≤ len1 ∧ Hid (q = addE n (X.take i)) ∧ ys.length ≤ i ∧ Hid (inH n (X.take i) → ys = X.take i) ∧ Hid (wr.ownsRow G 3 1 (.slice (some ⟨G, 0, none⟩) n n) n (nats (natI (cntH n ys)))) ∧ Hid (Below G w4 wr)) (fun _ vi _ => len1 - (intOf vi).toNat)
        case atStart => exact ⟨0, 0, [], rfl, rfl, by omega, by show _ = _; rw [List.take_zero, addE_in (inH_nil n)], by simp, fun _ => by rw [List.take_zero], HC5.out, HB5.out⟩
        case round =>
          clear HC5 HB5
          obtain ⟨i, q, ys, rfl, rfl, hi, hq, hyl, hys, hrow, hbl⟩ := hrel
          have hblw : Below w4.heap.size w4 wr := by rw [← HG.out]; exact hbl.out
          by_cases hlt : i < len1
          · have hiL : i < X.length := by rw [HXL.out]; exact hlt
            obtain ⟨b, o, rfl, _, hgb, hcell⟩ := reads_int HX4.out (by omega)
            have hcb := keeps hblw _ _ (hcell i hiL)
            have hxi : (decide ((0 : Int) ≤ (i : Int) ∧ (i : Int) < (len1 : Int))) = true := decide_eq_true ⟨by omega, by omega⟩
            have hts := inH_take_succ n X i hiL
            obtain ⟨t, ht⟩ : ∃ t, t = X[i]'hiL := ⟨_, rfl⟩
            rw [← ht] at hcb hts
            have HT := hid ht
            have HTS := hid hts
            clear hcell ht hts hblw
            by_cases hp : inH n (X.take i)
            · have hq0 : q = 0 := by rw [hq.out, addE_in hp]
              subst hq0
              have hyx := hys.out hp
              subst hyx
              by_cases htn : 0 ≤ t ∧ t < (n : Int)
              · obtain ⟨k, rfl⟩ : ∃ k : Nat, t = (k : Int) := ⟨t.toNat, by omega⟩
                have hk : k < n := by omega
                have ht0 : decide ((k : Int) < 0) = false := decide_eq_false (by omega)
                have ht1 : decide ((n : Int) ≤ (k : Int)) = false := decide_eq_false (by omega)
                have hxk : (decide ((0 : Int) ≤ (k : Int) ∧ (k : Int) < (n : Int))) = true := decide_eq_true ⟨by omega, by omega⟩
                have hiX : i < X.length := by rw [HXL.out]; exact hlt
                obtain ⟨c, hc⟩ : ∃ c, c = (X.take i).count (k : Int) := ⟨_, rfl⟩
                have hc1 : c ≤ 100000 := by rw [hc]; exact Nat.le_trans List.count_le_length (by omega)
                have ck : wr.cell? ⟨G, k, none⟩ = some (.int .i64 (c : Int)) := by
                  rw [hrow.out.cellAt k (by omega), nats_at _ k (by rw [natH_length]; exact hk), natI_at _ k (by rw [cntH_length]; exact hk), cntH_at n _ k hk, ← hc]
                have fk := hrow.out.frozenAt k
                have HR2 := hid (hrow.out.stored k (.int .i64 ((c + 1 : Nat) : Int))).1
                have HL2 := hid (hbl.out.setCell (p := ⟨G, k, none⟩) (Nat.le_refl G) (.int .i64 ((c + 1 : Nat) : Int)))
                have HCE := hid hc
                have HP2 := hid (HTS.out.2 ⟨hp, htn⟩)
                have HWR : Hid ((c : Int) + 1 = ((c + 1 : Nat) : Int)) := by show _ = _; omega
                have HXS : Hid (X.take (i + 1) = X.take i ++ [(k : Int)]) := by show _ = _; rw [List.take_succ_eq_append_getElem hiX, ← HT.out]
                clear hc hq hys hrow hp htn hiX
                go_wp2
                all_goals go_roundw
                case rel =>
                  refine ⟨i + 1, 0, X.take (i + 1), by first | rfl | go_num, by go_num, by omega, by show _ = _; rw [addE_in HP2.out], by rw [List.length_take]; omega, fun _ => rfl, ?_, ?_⟩
                  · show World.ownsRow _ _ _ _ _ _ _
                    have e1 : nats (natI (cntH n (X.take (i + 1)))) = (nats (natI (cntH n (X.take i)))).set k (.int .i64 ((c + 1 : Nat) : Int)) := by
                      rw [HXS.out, cntH_snoc, ← natI_set, nats, nats, List.map_set, ← HCE.out]
                    rw [e1]
                    rw [HWR.out]; exact HR2.out
                  · show Below _ _ _; rw [HWR.out]; exact HL2.out
                case measure => simp [intOf]; omega
              · have HP2 : Hid (¬ inH n (X.take (i + 1))) := fun h => htn (HTS.out.1 h).2
                by_cases h0 : t < 0
                · have ht0 : decide (t < 0) = true := decide_eq_true h0
                  clear htn hp
                  go_wp2
                  all_goals go_roundw
                  case rel => exact ⟨i + 1, 9, _, by first | rfl | go_num, by go_num, by omega, by show _ = _; rw [addE_out HP2.out], by omega, fun h => absurd h HP2.out, hrow.out, hbl.out⟩
                  case measure => simp [intOf]; omega
                · have ht0 : decide (t < 0) = false := decide_eq_false h0
                  have ht1 : decide ((n : Int) ≤ t) = true := decide_eq_true (by omega)
                  clear htn hp
                  go_wp2
                  all_goals go_roundw
                  case rel => exact ⟨i + 1, 9, _, by first | rfl | go_num, by go_num, by omega, by show _ = _; rw [addE_out HP2.out], by omega, fun h => absurd h HP2.out, hrow.out, hbl.out⟩
                  case measure => simp [intOf]; omega
            · have hq9 : q = 9 := by rw [hq.out, addE_out hp]
              subst hq9
              have HP2 : Hid (¬ inH n (X.take (i + 1))) := fun h => hp (HTS.out.1 h).1
              clear hp
              go_wp2
              all_goals go_roundw
              case rel => exact ⟨i + 1, 9, ys, by first | rfl | go_num, by go_num, by omega, by show _ = _; rw [addE_out HP2.out], by omega, fun h => absurd h HP2.out, hrow.out, hbl.out⟩
              case measure => simp [intOf]; omega
          · obtain rfl : i = len1 := by omega
            have hqE := hq.out
            have hyX := hys.out
            rw [List.take_of_length_le (by rw [HXL.out]; exact Nat.le_refl _)] at hqE hyX
            rw [← HE.out] at hqE
            subst hqE
            by_cases hX : inH n X
            · have hq0 : q = 0 := by rw [HE.out, addE_in hX]
              subst hq0
              have hyx := hyX hX
              subst hyx
              have HHQ : Hid (H = natI (cntH n ys)) := by show _ = _; rw [HH.out, addH_in hX, List.nil_append]
              have HHL : Hid (H.length = n) := by show _ = _; rw [HHQ.out, natH_length]
              have hblw : Below w4.heap.size w4 wr := by rw [← HG.out]; exact hbl.out
              have HZ6 := hid (HZ4.out.trans (hblw.mono HZ4.out.size))
              have HV6 := hid (ownsRow_below HV4.out hblw)
              have HY6 := hid (HY.out.below (below_more HB2.out HZ6.out))
              have HC6 : Hid (wr.ownsRow G 3 1 (.slice (some ⟨G, 0, none⟩) n n) H.length (nats H)) := by show World.ownsRow _ _ _ _ _ _ _; rw [HHL.out, HHQ.out]; exact hrow.out
              have HG6 : Hid (G < wr.heap.size) := (hrow.out.lt G rfl).2
              have HVM3 : Hid (∀ k, v3.ownBlock = some k → 0 ≤ k ∧ k < w3.heap.size ∧ k ≠ G) := fun k hk => ⟨Nat.zero_le _, (HV3.out.lt k hk).2, by have h1 := (HV3.out.lt k hk).2; have h2 := HS4.out; have h3 := HG.out; omega⟩
              have H3G : Hid (w3.heap.size ≤ G) := by show _ ≤ _; have h2 := HS4.out; have h3 := HG.out; omega
              have H2G : Hid (w2.heap.size ≤ G) := by show _ ≤ _; have h2 := HZ4.out.size; have h3 := HG.out; omega
              obtain ⟨R, hR⟩ : ∃ R, R = addH n ys Y := ⟨_, rfl⟩
              obtain ⟨F, hF⟩ : ∃ F, F = addE n Y := ⟨_, rfl⟩
              have hRl : R.length ≤ 356 := by rw [hR]; have := addH_length n ys Y; omega
              have HR := hid hR
              have HF := hid hF
              have HXX := hid hX
              clear hR hF hyX hys hrow hbl hblw hX HV3 HV4 HX4 HS4 HX3 HX2 HX1 HZ3 HZ4 HC2 HH hq
              go_wp2_with (first
                | (have _h := HS9; go_at_call 11; refine (ShelfG.keep (M' := w8.heap.size) HS9.out (by omega) HR9.out (by omega) HZ9.out.size H38.out HVM8.out HG9.out).mono ?_; rintro e w10 ⟨rfl, hs10, hb10, hk10⟩; have HS10 := hid hs10; have HZ10 := hid (HZ9.out.trans hb10); have HV10 := hid (hk10.row HV9.out); have HC10 := hid (hk10.row HC9.out); have HN10 := hid (hk10.row HN9.out); have HR10 := hid (hk10.row HR9.out); clear hs10 hb10 hk10 HS9 _h)
                | (go_at_call 7; refine (lentI_any (ownsRow_reads HV6.out) (by rw [HHL.out]; omega)).mono ?_; rintro e w7 ⟨gn, capn, rfl, ho7, hc7, hb7⟩; rw [HHL.out] at ho7 hc7 ⊢; have HN7 := hid ho7; have HNC := hid hc7; have HZ7 := hid (HZ6.out.trans (hb7.mono HZ6.out.size)); have HV7 := hid (ownsRow_below HV6.out hb7); have HC7 := hid (ownsRow_below HC6.out hb7); have HG7 := hid (Nat.lt_of_lt_of_le HG6.out hb7.size); have HY7 := hid (HY6.out.below hb7); clear ho7 hc7 hb7)
                | (go_at_call 10; refine (add_any (n := n) (xs := ys) (ys := Y) (by rw [← HHQ.out]; exact lentI_reads HN7.out HHL.out) HY7.out HN.out (by rw [HXL.out, HYL.out]; omega)).mono ?_; rintro e w8 ⟨v8, rfl, ho8, hb8⟩; rw [← HF.out]; rw [← HR.out] at ho8; obtain ⟨a8, c8, rfl⟩ := ownsRow_slice ho8; have HVM8 : Hid (∀ k, (Value.slice a8 R.length c8).ownBlock = some k → w3.heap.size ≤ k ∧ k < w8.heap.size ∧ k ≠ G) := (fun k hk => ⟨by have h1 := (ho8.lt k hk).1; have h2 := H3G.out; have h3 := HG7.out; omega, (ho8.lt k hk).2, by have h1 := (ho8.lt k hk).1; have h3 := HG7.out; omega⟩); have HZ8 := hid (HZ7.out.trans (hb8.mono HZ7.out.size)); have H38 := hid (Nat.le_trans H3G.out (Nat.le_of_lt (Nat.lt_of_lt_of_le HG7.out hb8.size))); have HR8 := hid (ownsRow_lower ho8 HZ7.out.size); have HV8 := hid (ownsRow_below HV7.out hb8); have HC8 := hid (ownsRow_below HC7.out hb8); have HN8 := hid (ownsRow_below HN7.out hb8); have HG8 := hid (Nat.lt_of_lt_of_le HG7.out hb8.size); clear ho8 hb8)
                | (go_at_call 11; have hal : Below w8.heap.size w8 (w8.alloc (.cells #[.slice none 0 0, .slice none 0 0, .slice none 0 0, .slice none 0 0, .slice none 0 0, .slice none 0 0, .slice none 0 0, .slice none 0 0, .slice none 0 0, .slice none 0 0] 37)) := (Below.refl _ _).alloc (Nat.le_refl _) _; refine (ShelfG.keep (M' := w3.heap.size) (shelfG_new w8 w2.heap.size G 0 HZ8.out.size) (by omega) (ownsRow_below HV8.out hal) (by rw [HHL.out]; omega) (Nat.le_trans HZ8.out.size hal.size) (Nat.zero_le _) HVM3.out (Nat.lt_of_lt_of_le HG8.out hal.size)).mono ?_; rintro e w9 ⟨rfl, hs9, hb9, hk9⟩; have HS9 := hid hs9; have HZ9 := hid ((HZ8.out.trans (hal.mono HZ8.out.size)).trans hb9); have HV9 := hid (hk9.row (ownsRow_below HV8.out hal)); have HC9 := hid (hk9.row (ownsRow_below HC8.out hal)); have HN9 := hid (hk9.row (ownsRow_below HN8.out hal)); have HR9 := hid (hk9.row (ownsRow_below HR8.out hal)); have HG9 := hid (Nat.lt_of_lt_of_le HG8.out (Nat.le_trans hal.size hb9.size)); clear hs9 hb9 hk9 hal)
                | (go_at_call 12; refine (sameInts_any (xs := H) (ys := H) (ownsRow_reads HV10.out) (by have := ownsRow_reads HC10.out; exact this) (by rw [HHL.out]; omega) (by rw [HHL.out]; omega)).mono ?_; rintro e w11 ⟨rfl, hb11⟩; rw [decide_eq_true rfl]; have HS11 := hid (HS10.out.below hb11); have HZ11 := hid (HZ10.out.trans (hb11.mono HZ10.out.size)); have HC11 := hid (ownsRow_below HC10.out hb11); have HN11 := hid (ownsRow_below HN10.out hb11); have HR11 := hid (ownsRow_below HR10.out hb11); clear hb11)
                | (go_at_call 9; refine (staysI_any (xs := H) HN11.out HNC.out (ownsRow_reads HC11.out) HHL.out (by omega)).mono ?_; rintro e w12 ⟨rfl, hb12⟩; have HS12 := hid (HS11.out.below hb12); have HZ12 := hid (HZ11.out.trans (hb12.mono HZ11.out.size)); have HC12 := hid (ownsRow_below HC11.out hb12); have HR12 := hid (ownsRow_below HR11.out hb12); clear hb12))
              go_loopw [19, 130] (fun vq vi wr2 => ∃ (j : Nat) (q : Int), vq = .int .i64 q ∧ vi = .int .i64 j ∧ j ≤ len2 ∧ Hid (q = addE n (Y.take j)) ∧ wr2 = w12) (fun _ vi _ => len2 - (intOf vi).toNat)
              case atStart => exact ⟨0, 0, rfl, rfl, by omega, by show _ = _; rw [List.take_zero, addE_in (inH_nil n)], rfl⟩
              case round =>
                obtain ⟨j, q, rfl, rfl, hj, hq, hwe⟩ := hrel
                replace hwe := hwe.symm
                subst hwe
                have hblw := below_more HB2.out HZ12.out
                by_cases hlt : j < len2
                · have hjL : j < Y.length := by rw [HYL.out]; exact hlt
                  obtain ⟨b, o, rfl, _, hgb, hcell⟩ := reads_int HY.out (by omega)
                  have hcb := keeps hblw _ _ (hcell j hjL)
                  have hxi : (decide ((0 : Int) ≤ (j : Int) ∧ (j : Int) < (len2 : Int))) = true := decide_eq_true ⟨by omega, by omega⟩
                  have hts := inH_take_succ n Y j hjL
                  obtain ⟨t, ht⟩ : ∃ t, t = Y[j]'hjL := ⟨_, rfl⟩
                  rw [← ht] at hcb hts
                  have HTS := hid hts
                  clear hcell ht hts hblw hjL
                  by_cases htn : 0 ≤ t ∧ t < (n : Int)
                  · have hqn : Hid (q = addE n (Y.take (j + 1))) := by
                      show _ = _
                      rw [hq.out]
                      by_cases hp : inH n (Y.take j)
                      · rw [addE_in hp, addE_in (HTS.out.2 ⟨hp, htn⟩)]
                      · rw [addE_out hp, addE_out (fun h => hp (HTS.out.1 h).1)]
                    have ht0 : decide (t < 0) = false := decide_eq_false (by omega)
                    have ht1 : decide ((n : Int) ≤ t) = false := decide_eq_false (by omega)
                    clear htn hq
                    go_wp2
                    all_goals go_roundw
                    case rel => exact ⟨j + 1, q, by first | rfl | go_num, by go_num, by omega, hqn, by first | rfl | trivial⟩
                    case measure => simp [intOf]; omega
                  · have hqn : Hid ((9 : Int) = addE n (Y.take (j + 1))) := by show _ = _; rw [addE_out (fun h => htn (HTS.out.1 h).2)]
                    by_cases h0 : t < 0
                    · have ht0 : decide (t < 0) = true := decide_eq_true h0
                      clear htn hq
                      go_wp2
                      all_goals go_roundw
                      case rel => exact ⟨j + 1, 9, by first | rfl | go_num, by go_num, by omega, hqn, by first | rfl | trivial⟩
                      case measure => simp [intOf]; omega
                    · have ht0 : decide (t < 0) = false := decide_eq_false h0
                      have ht1 : decide ((n : Int) ≤ t) = true := decide_eq_true (by omega)
                      clear htn hq
                      go_wp2
                      all_goals go_roundw
                      case rel => exact ⟨j + 1, 9, by first | rfl | go_num, by go_num, by omega, hqn, by first | rfl | trivial⟩
                      case measure => simp [intOf]; omega
                · obtain rfl : j = len2 := by omega
                  have hqF := hq.out
                  rw [List.take_of_length_le (by rw [HYL.out]; exact Nat.le_refl _), ← HF.out] at hqF
                  subst hqF
                  by_cases hYin : inH n Y
                  · have hq0 : q = 0 := by rw [HF.out, addE_in hYin]
                    have HRQ : Hid (R = natI (cntH n (ys ++ Y))) := by show _ = _; rw [HR.out, addH_in hYin]
                    have HRL : Hid (R.length = n) := by show _ = _; rw [HRQ.out, natH_length]
                    have HIN : Hid (inH n (ys ++ Y)) := (inH_append n ys Y).2 ⟨HXX.out, hYin⟩
                    have HYI := hid hYin
                    have HC13 : Hid (w12.ownsRow G 3 1 (.slice (some ⟨G, 0, none⟩) n n) n (nats (natI (cntH n ys)))) := by
                      have h1 := HC12.out
                      rw [HHL.out, HHQ.out] at h1
                      exact h1
                    have HBW := hid hblw
                    subst hq0
                    clear hblw hq hYin
                    go_wp2
                    go_loopw [152] (fun vi wr3 => ∃ j2 : Nat, vi = .int .i64 j2 ∧ j2 ≤ j ∧ Hid (wr3.ownsRow G 3 1 (.slice (some ⟨G, 0, none⟩) n n) n (nats (natI (cntH n (ys ++ Y.take j2))))) ∧ Hid (Kept (· = G) w12 wr3)) (fun vi _ => j - (intOf vi).toNat)
                    case atStart => exact ⟨0, rfl, by omega, by show World.ownsRow _ _ _ _ _ _ _; rw [List.take_zero, List.append_nil]; exact HC13.out, Kept.refl _ _⟩
                    case round =>
                      obtain ⟨wr3, hw3⟩ : ∃ W, W = wr := ⟨_, rfl⟩
                      subst hw3
                      obtain ⟨j2, rfl, hj2, hrow, hkp⟩ := hrel
                      have hbG : Below w2.heap.size w12 wr3 := hkp.out.below HZ12.out.size (by rintro k rfl; exact H2G.out)
                      by_cases hlt : j2 < j
                      · have hjL : j2 < Y.length := by rw [HYL.out]; exact hlt
                        obtain ⟨b, o, rfl, _, hgb, hcell⟩ := reads_int HY.out (by omega)
                        have hcb := keeps (below_more HB2.out (HZ12.out.trans hbG)) _ _ (hcell j2 hjL)
                        have hxi : (decide ((0 : Int) ≤ (j2 : Int) ∧ (j2 : Int) < (j : Int))) = true := decide_eq_true ⟨by omega, by omega⟩
                        obtain ⟨t, ht⟩ : ∃ t, t = Y[j2]'hjL := ⟨_, rfl⟩
                        have htn : 0 ≤ t ∧ t < (n : Int) := by rw [ht]; exact HYI.out _ (List.getElem_mem hjL)
                        rw [← ht] at hcb
                        have HT := hid ht
                        clear hcell ht
                        obtain ⟨k, rfl⟩ : ∃ k : Nat, t = (k : Int) := ⟨t.toNat, by omega⟩
                        have hk : k < n := by omega
                        have hxk : (decide ((0 : Int) ≤ (k : Int) ∧ (k : Int) < (n : Int))) = true := decide_eq_true ⟨by omega, by omega⟩
                        obtain ⟨c, hc⟩ : ∃ c, c = (ys ++ Y.take j2).count (k : Int) := ⟨_, rfl⟩
                        have hc1 : c ≤ 100000 := by
                          rw [hc]
                          refine Nat.le_trans List.count_le_length ?_
                          have h1 := HXL.out
                          rw [List.length_append, List.length_take]
                          omega
                        have ck : wr3.cell? ⟨G, k, none⟩ = some (.int .i64 (c : Int)) := by
                          rw [hrow.out.cellAt k (by omega), nats_at _ k (by rw [natH_length]; exact hk), natI_at _ k (by rw [cntH_length]; exact hk), cntH_at n _ k hk, ← hc]
                        have fk := hrow.out.frozenAt k
                        have HR2 := hid (hrow.out.stored k (.int .i64 ((c + 1 : Nat) : Int))).1
                        have HK2 := hid (hkp.out.setCell G k (.int .i64 ((c + 1 : Nat) : Int)) rfl)
                        have HCE := hid hc
                        have HWR : Hid ((c : Int) + 1 = ((c + 1 : Nat) : Int)) := by show _ = _; omega
                        have HXS : Hid (Y.take (j2 + 1) = Y.take j2 ++ [(k : Int)]) := by show _ = _; rw [List.take_succ_eq_append_getElem hjL, ← HT.out]
                        clear hc hrow htn hbG hkp
                        go_wp2
                        all_goals go_roundw
                        case rel =>
                          refine ⟨j2 + 1, by go_num, by omega, ?_, ?_⟩
                          · show World.ownsRow _ _ _ _ _ _ _
                            have e1 : nats (natI (cntH n (ys ++ Y.take (j2 + 1)))) = (nats (natI (cntH n (ys ++ Y.take j2)))).set k (.int .i64 ((c + 1 : Nat) : Int)) := by
                              rw [HXS.out, ← List.append_assoc, cntH_snoc, ← natI_set, nats, nats, List.map_set, ← HCE.out]
                            rw [e1]
                            rw [HWR.out]; exact HR2.out
                          · show Kept _ _ _; rw [HWR.out]; exact HK2.out
                        case measure => simp [intOf]; omega
                      · obtain rfl : j2 = j := by omega
                        have hrw := hrow.out
                        rw [List.take_of_length_le (by rw [HYL.out]; exact Nat.le_refl _), ← HRQ.out] at hrw
                        have HC14 : Hid (wr3.ownsRow G 3 1 (.slice (some ⟨G, 0, none⟩) n n) R.length (nats R)) := by show World.ownsRow _ _ _ _ _ _ _; rw [HRL.out]; exact hrw
                        have HZ14 := hid (HZ12.out.trans hbG)
                        obtain ⟨_, cur, hcur⟩ := ownsRow_block HC13.out G rfl
                        have HS14 := hid (HS12.out.kept hcur hkp.out)
                        have HR14 := hid (ownsRow_same HR12.out (fun k hk => hkp.out.block k (HR12.out.lt k hk).2 (HVM8.out k hk).2.2))
                        obtain ⟨cn, hcn⟩ : ∃ cn, cn = cntH n (ys ++ Y) := ⟨_, rfl⟩
                        have hcl : cn.length = n := by rw [hcn, cntH_length]
                        have hcs : cn.sum = j2 + i := by
                          rw [hcn, cntH_sum n _ HIN.out, List.length_append, HYL.out, HXL.out]
                          omega
                        have HRQ2 : Hid (R = natI cn) := by show _ = _; rw [hcn]; exact HRQ.out
                        have HCL := hid hcl
                        have HCS := hid hcs
                        have hcellG : ∀ k (hk : k < cn.length), wr3.cell? ⟨G, k, none⟩ = some (.int .i64 ((cn[k]'hk : Nat) : Int)) := fun k hk => by
                          have h1 := HC14.out
                          rw [HRL.out, HRQ2.out] at h1
                          rw [h1.cellAt k (by omega), nats_at _ k (by rw [natI_length]; exact hk), natI_at _ k hk]
                        have HCG := hid hcellG
                        obtain ⟨U, hU⟩ : ∃ U, U = useH cn := ⟨_, rfl⟩
                        have HU := hid hU
                        clear hrw hrow hkp hbG hcur hcn hcl hcs hcellG hU HS12 HR12 HZ12 HC13 HC12
                        go_wp2
                        go_loopw [18, 165] (fun vu vi wr4 => ∃ (l q : Nat), vu = .int .i64 q ∧ vi = .int .i64 l ∧ l ≤ n ∧ q ≤ l ∧ Hid (q = useH (cn.take l)) ∧ wr4 = wr3) (fun _ vi _ => n - (intOf vi).toNat)
                        case atStart => exact ⟨0, 0, rfl, rfl, by omega, by omega, rfl, rfl⟩
                        case round =>
                          obtain ⟨l, q, rfl, rfl, hl, hq, hqe, hwe⟩ := hrel
                          replace hwe := hwe.symm
                          subst hwe
                          by_cases hlt2 : l < n
                          · have hlL : l < cn.length := by rw [HCL.out]; exact hlt2
                            have hcb := HCG.out l hlL
                            have hxi : (decide ((0 : Int) ≤ (l : Int) ∧ (l : Int) < (n : Int))) = true := decide_eq_true ⟨by omega, by omega⟩
                            have hsum : useH (cn.take (l + 1)) = useH (cn.take l) + (if 0 < cn[l]'hlL then 1 else 0) := by rw [List.take_succ_eq_append_getElem hlL, useH_snoc]
                            obtain ⟨d, hd⟩ : ∃ d, d = cn[l]'hlL := ⟨_, rfl⟩
                            rw [← hd] at hcb hsum
                            clear hd
                            by_cases hd0 : 0 < d
                            · have hdd : decide ((0 : Int) < (d : Int)) = true := decide_eq_true (by omega)
                              rw [if_pos hd0] at hsum
                              have HSUM := hid hsum
                              clear hsum
                              go_wp2
                              all_goals go_roundw
                              case rel => exact ⟨l + 1, q + 1, by go_num, by go_num, by omega, by omega, by show _ = _; rw [HSUM.out, hqe.out], by first | rfl | trivial⟩
                              case measure => simp [intOf]; omega
                            · have hdd : decide ((0 : Int) < (d : Int)) = false := decide_eq_false (by omega)
                              rw [if_neg hd0] at hsum
                              have HSUM := hid hsum
                              clear hsum
                              go_wp2
                              all_goals go_roundw
                              case rel => exact ⟨l + 1, q, by first | rfl | go_num, by go_num, by omega, by omega, by show _ = _; rw [HSUM.out, hqe.out]; omega, by first | rfl | trivial⟩
                              case measure => simp [intOf]; omega
                          · obtain rfl : l = n := by omega
                            have hqU : q = U := by rw [hqe.out, List.take_of_length_le (by rw [HCL.out]; exact Nat.le_refl _), HU.out]
                            subst hqU
                            clear hqe
                            go_wp2_with (first
                              | (go_at_call 12; refine (sameInts_any (xs := R) (ys := R) (ownsRow_reads HR14.out) (ownsRow_reads HC14.out) (by omega) (by omega)).mono ?_; rintro e w15 ⟨rfl, hb15⟩; rw [decide_eq_true rfl]; have HS15 := hid (HS14.out.below hb15); have HR15 : Hid (Reads w15 (.slice a8 R.length c8) (nats (natI cn))) := (by have h1 := ownsRow_reads (ownsRow_below HR14.out hb15); rw [← HRQ2.out]; exact h1); have HZ15 := hid (HZ14.out.trans (hb15.mono HZ14.out.size)); clear hb15)
                              | (go_at_call 13; refine (total_any HR15.out (by rw [HCL.out]; omega) (by rw [HCS.out]; omega)).mono ?_; rintro e w15 ⟨rfl, rfl⟩; rw [HCS.out])
                              | (go_at_call 14; refine (used_any HR15.out (by rw [HCL.out]; omega)).mono ?_; rintro e w15 ⟨rfl, rfl⟩; rw [← HU.out])
                              | (go_at_call 15; refine (ShelfG.apart HS15.out (by omega) HZ15.out.size).mono ?_; rintro e w16 ⟨rfl, hb16⟩; have HBF := hid (below_more HB2.out (HZ15.out.trans hb16)); clear hb16))
                            all_goals go_ret
                            all_goals exact ⟨by simp, HBF.out⟩
                  · have hq9 : q = 9 := by rw [HF.out, addE_out hYin]
                    have hR0 : R = [] := by rw [HR.out, addH_out hYin]
                    have hr0 : R.length = 0 := by rw [hR0]; rfl
                    have HBW := hid hblw
                    subst hq9
                    rw [hr0]
                    clear hblw hq hYin hR0 hr0
                    go_wp2
                    all_goals go_ret
                    all_goals exact ⟨by simp, HBW.out⟩
            · have hq9 : q = 9 := by rw [HE.out, addE_out hX]
              have hH0 : H = [] := by rw [HH.out, addH_out hX]
              have hblw : Below w4.heap.size w4 wr := by rw [← HG.out]; exact hbl.out
              have HBW := hid (below_more HB2.out (HZ4.out.trans (hblw.mono HZ4.out.size)))
              have hv4 := HV4.out
              rw [hH0] at hv4
              obtain ⟨a3, c3, hf⟩ := ownsRow_slice hv4
              subst hf
              subst hq9
              clear hblw hbl hrow hys hyX hq hv4 hX hH0
              go_wp2
              all_goals go_ret
              all_goals exact ⟨by simp, HBW.out⟩
      · by_cases h0 : s < 0
        · have hs0 : decide (s < 0) = true := decide_eq_true h0
          clear h0
          have HLe : Hid (ofL s X = []) := ofL_no _ hs
          have HEe : Hid (ofE s X = 1) := ofE_no _ hs
          clear hs
          go_enter Try.func3, Try.ntmps3
          go_wp2_with (first
            | (go_at_call 6; refine (alive_17 _).mono ?_; rintro e w1 ⟨rfl, hb1⟩; have HB1 := hid hb1; have HX1 := hid (HX.out.below hb1); clear hb1)
            | (go_at_call 7; refine (lentI_any HX1.out (by rw [HXL.out]; omega)).mono ?_; rintro e w2 ⟨gm, capm, rfl, ho2, hc2, hb2⟩; rw [HXL.out] at ho2 hc2 ⊢; have HM2 := hid ho2; have HC2 := hid hc2; have HB2 := hid (below_more HB1.out hb2); have HX2 := hid (HX1.out.below hb2); clear ho2 hc2 hb2)
            | (go_at_call 8; refine (of_any (ys := X) s (lentI_reads HM2.out HXL.out) (by rw [HXL.out]; omega)).mono ?_; rintro e w3 ⟨v3, rfl, ho3, hb3⟩; rw [HLe.out] at ho3; rw [HEe.out]; obtain ⟨a3, c3, rfl⟩ := ownsRow_slice ho3; clear ho3; have HZ3 := hid hb3; have HM3 := hid (ownsRow_below HM2.out hb3); have HX3 := hid (HX2.out.below hb3); clear hb3 HM2)
            | (go_at_call 9; refine (staysI_any HM3.out HC2.out HX3.out HXL.out (by omega)).mono ?_; rintro e w4 ⟨rfl, hb4⟩; have HZ4 := hid (HZ3.out.trans (hb4.mono HZ3.out.size)); have HX4 := hid (HX3.out.below hb4); have HBW := hid (below_more HB2.out HZ4.out); clear hb4 HM3))
          go_loopw [10, 63] (fun vq vi wr => ∃ (i : Nat), vq = .int .i64 1 ∧ vi = .int .i64 i ∧ i ≤ len1 ∧ wr = w4) (fun _ vi _ => len1 - (intOf vi).toNat)
          case atStart => exact ⟨0, rfl, rfl, by omega, rfl⟩
          case round =>
            obtain ⟨i, rfl, rfl, hi, hwe⟩ := hrel
            replace hwe := hwe.symm
            subst hwe
            by_cases hlt : i < len1
            · have hiL : i < X.length := by rw [HXL.out]; exact hlt
              obtain ⟨b, o, rfl, _, hgb, hcell⟩ := reads_int HX4.out (by omega)
              have hcb := hcell i hiL
              have hxi : (decide ((0 : Int) ≤ (i : Int) ∧ (i : Int) < (len1 : Int))) = true := decide_eq_true ⟨by omega, by omega⟩
              generalize X[i]'hiL = t at hcb
              clear hcell
              go_wp2
              all_goals go_roundw
              case rel => exact ⟨i + 1, by first | rfl | trivial, by go_num, by omega, by first | rfl | trivial⟩
              case measure => simp [intOf]; omega
            · obtain rfl : i = len1 := by omega
              go_wp2
              all_goals go_ret
              all_goals exact ⟨by simp, HBW.out⟩
        · have hs0 : decide (s < 0) = false := decide_eq_false h0
          have hs1 : decide ((356 : Int) < s) = true := decide_eq_true (by omega)
          clear h0
          have HLe : Hid (ofL s X = []) := ofL_no _ hs
          have HEe : Hid (ofE s X = 1) := ofE_no _ hs
          clear hs
          go_enter Try.func3, Try.ntmps3
          go_wp2_with (first
            | (go_at_call 6; refine (alive_17 _).mono ?_; rintro e w1 ⟨rfl, hb1⟩; have HB1 := hid hb1; have HX1 := hid (HX.out.below hb1); clear hb1)
            | (go_at_call 7; refine (lentI_any HX1.out (by rw [HXL.out]; omega)).mono ?_; rintro e w2 ⟨gm, capm, rfl, ho2, hc2, hb2⟩; rw [HXL.out] at ho2 hc2 ⊢; have HM2 := hid ho2; have HC2 := hid hc2; have HB2 := hid (below_more HB1.out hb2); have HX2 := hid (HX1.out.below hb2); clear ho2 hc2 hb2)
            | (go_at_call 8; refine (of_any (ys := X) s (lentI_reads HM2.out HXL.out) (by rw [HXL.out]; omega)).mono ?_; rintro e w3 ⟨v3, rfl, ho3, hb3⟩; rw [HLe.out] at ho3; rw [HEe.out]; obtain ⟨a3, c3, rfl⟩ := ownsRow_slice ho3; clear ho3; have HZ3 := hid hb3; have HM3 := hid (ownsRow_below HM2.out hb3); have HX3 := hid (HX2.out.below hb3); clear hb3 HM2)
            | (go_at_call 9; refine (staysI_any HM3.out HC2.out HX3.out HXL.out (by omega)).mono ?_; rintro e w4 ⟨rfl, hb4⟩; have HZ4 := hid (HZ3.out.trans (hb4.mono HZ3.out.size)); have HX4 := hid (HX3.out.below hb4); have HBW := hid (below_more HB2.out HZ4.out); clear hb4 HM3))
          go_loopw [10, 63] (fun vq vi wr => ∃ (i : Nat), vq = .int .i64 1 ∧ vi = .int .i64 i ∧ i ≤ len1 ∧ wr = w4) (fun _ vi _ => len1 - (intOf vi).toNat)
          case atStart => exact ⟨0, rfl, rfl, by omega, rfl⟩
          case round =>
            obtain ⟨i, rfl, rfl, hi, hwe⟩ := hrel
            replace hwe := hwe.symm
            subst hwe
            by_cases hlt : i < len1
            · have hiL : i < X.length := by rw [HXL.out]; exact hlt
              obtain ⟨b, o, rfl, _, hgb, hcell⟩ := reads_int HX4.out (by omega)
              have hcb := hcell i hiL
              have hxi : (decide ((0 : Int) ≤ (i : Int) ∧ (i : Int) < (len1 : Int))) = true := decide_eq_true ⟨by omega, by omega⟩
              generalize X[i]'hiL = t at hcb
              clear hcell
              go_wp2
              all_goals go_roundw
              case rel => exact ⟨i + 1, by first | rfl | trivial, by go_num, by omega, by first | rfl | trivial⟩
              case measure => simp [intOf]; omega
            · obtain rfl : i = len1 := by omega
              go_wp2
              all_goals go_ret
              all_goals exact ⟨by simp, HBW.out⟩
    · have hd2 : decide ((400 : Int) < (len2 : Int)) = true := decide_eq_true (by omega)
      have hd2' : decide (400 < len2) = true := decide_eq_true (by omega)
      clear h1 h2
      go_enter Try.func3, Try.ntmps3
      go_wp2_with (first
        | (go_at_call 6; refine (alive_17 _).mono ?_; rintro e w1 ⟨rfl, hb1⟩))
      all_goals go_ret
      all_goals exact ⟨by simp, hb1⟩
  · have hd1 : decide ((400 : Int) < (len1 : Int)) = true := decide_eq_true (by omega)
    have hd1' : decide (400 < len1) = true := decide_eq_true (by omega)
    clear h1 h2
    go_enter Try.func3, Try.ntmps3
    go_wp2_with (first
      | (go_at_call 6; refine (alive_17 _).mono ?_; rintro e w1 ⟨rfl, hb1⟩))
    all_goals go_ret
    all_goals exact ⟨by simp, hb1⟩

set_option linter.unusedVariables false
theorem histTells_own : ownKnob Try.prog.godebug = none := by kernel_rfl

theorem histTells_laidOut : laidOutB Try.prog = true := by kernel_rfl

set_option maxRecDepth 100000 in
theorem histTells_lifted (os : Os) (started : os.Started) (H : Type) (enc : TypeId × Value → H) :
    ReturnsInHanded {} Try.checked os 3 .any (Rows.histTellsSpec.pre6 enc Try.prog Try.f3 Rows.histTellsRow.domain false) (Rows.histTellsSpec.post enc Try.prog Try.f3 false true false false) := by
  refine returnsInHanded_of_change (C := Try.checked) histTells_own started (by kernel_rfl) Try.func3
    (ChangeSpec.witness6 (enc := enc) (C := Try.checked) false ⟨#[], #[.int .i64 0, .slice none 0 0, .slice none 0 0], []⟩ 8 (by kernel_rfl) (by kernel_rfl) (by kernel_rfl) (by kernel_rfl)) ?_
  intro W base args ds gs before hval0 hW hcnd _
  have hval : ∀ (j : Nat) t v, Try.f3.params[j]? = some t → args[j]? = some v → Value.okWide Try.prog W .any base t v := hval0
  have hW' := hW
  obtain ⟨p, q, hA0, hV, rfl, hfz, hnd⟩ := hW
  have hA : DataW.TrodAll enc Try.prog W 0 (fun _ => true) true Try.f3.params.toList args.toList ds p := hA0
  rw [Try.params3] at hA hval
  obtain ⟨v0, vs0, d0, ds0, p0, q0, hargs, rfl, rfl, h0, r0⟩ := trodAll_cons hA
  obtain ⟨v1, vs1, d1, ds1, p1, q1, rfl, rfl, rfl, h1, r1⟩ := trodAll_cons r0
  obtain ⟨v2, vs2, d2, ds2, p2, q2, rfl, rfl, rfl, h2, r2⟩ := trodAll_cons r1
  obtain ⟨rfl, rfl, rfl⟩ := trodAll_nil r2
  obtain rfl : args = #[v0, v1, v2] := by cases args; simp_all
  obtain ⟨rfl, rfl⟩ := trodVars_none hV
  obtain ⟨a0, rfl, rfl, rfl, w0⟩ := open_int Try.underlying3 (hval 0 3 v0 rfl rfl) h0
  obtain ⟨a1, len1, cap1, rfl⟩ := okWide_slice Try.underlying22 (hval 1 22 v1 rfl rfl)
  have k1 := h1
  have lt1 : ∀ x ∈ p1, x.block < W.heap.size := by obtain ⟨m, hm⟩ := k1; exact DataW.trod_lt m _ _ _ hm
  obtain ⟨z1, w1⟩ := h1.elim (fun _ hf => open_numbers hf)
  obtain ⟨a2, len2, cap2, rfl⟩ := okWide_slice Try.underlying22 (hval 2 22 v2 rfl rfl)
  have k2 := h2
  have lt2 : ∀ x ∈ p2, x.block < W.heap.size := by obtain ⟨m, hm⟩ := k2; exact DataW.trod_lt m _ _ _ hm
  obtain ⟨z2, w2⟩ := h2.elim (fun _ hf => open_numbers hf)
  clear hA0 hval0
  refine (tells_walk a0 a1 len1 cap1 z1 a2 len2 cap2 z2 W w1 w2).mono fun e W' ⟨he, bel⟩ => ?_
  subst he
  exact ⟨_, rfl, _, _, _, [], _, [], hW', trodAll_mk1 (shut_bool Try.underlying4 _), (trodAll_cons_mk (shut_int Try.underlying3 w0) (trodAll_cons_mk (Below.trod histTells_laidOut (by kernel_rfl) (of_decide_eq_true (by kernel_rfl)) k1 bel lt1) (trodAll_cons_mk (Below.trod histTells_laidOut (by kernel_rfl) (of_decide_eq_true (by kernel_rfl)) k2 bel lt2) trodAll_mk0))), rfl, bel.frame _, fun h => by cases h⟩

/-- THE STATEMENT. -/
theorem histTells_holds : Rows.HistTellsSaid :=
  OpenClaim.holds_of_wide 3 Try.f3 rfl rfl rfl rfl rfl rfl rfl ⟨rfl, rfl, rfl, rfl, rfl⟩ rfl rfl rfl rfl rfl (by kernel_rfl) Try.func3 (by kernel_rfl)
    (of_decide_eq_true (by kernel_rfl)) (by unfold Func.isWrapper; first | (rw [if_pos (by decide +kernel)]; kernel_rfl) | (rw [if_neg (by decide +kernel)]; exact ⟨rfl, rfl⟩))
    (fun os started H enc _ => histTells_lifted os started H enc)
#print axioms histTells_holds
end Go.Proofs.Ytgmfjgiakgoofaa
