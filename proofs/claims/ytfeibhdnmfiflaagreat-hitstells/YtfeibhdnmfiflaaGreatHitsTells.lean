/-
  HitsTells: of every dictionary, every bytes: which phrases stand at each place, the longest one; by all hits the same; what is handed in stays; the lists are apart. For every list of texts, every bytes, every place.
  No condition: whatever the input, in whatever memory; the arguments read as before.
-/
import Derived.Test.YtfeibhdnmfiflaaGreatHitPlace
import Derived.Test.YtfeibhdnmfiflaaGreatRefStands
import Derived.Test.YtfeibhdnmfiflaaGreatMix
import Derived.Test.YtfeibhdnmfiflaaGreatRef
import Derived.Test.YtfeibhdnmfiflaaGreatEnds
import Derived.ShutString
import Derived.ChangeOld
import Derived.SizedLaws
namespace Go.Proofs.YtfeibhdnmfiflaaGreat
open Go.ChangeShapes Go.WideShapes Go.ChangeAt Go.RowKit
open Go.ChangeMaps (open_string shut_string)

/-- The lists that are not kept yet. -/
def Pend (V1 V2 : Nat → Value) (n i : Nat) (v : Value) : Prop := ∃ k, i ≤ k ∧ k < n ∧ (v = V1 k ∨ v = V2 k)

/-- Two families of rows, one behind the other, are apart. -/
theorem two_off {w : World} {B1 B2 g1 g2 n : Nat} {V1 V2 : Nat → Value} {C1 C2 : Nat → List Nat} {w1 : World} (h1 : Lots w1 B1 g1 n V1 C1) (h2 : Lots w B2 g2 n V2 C2) (hB : w1.heap.size ≤ B2) {i k : Nat} (hi : i < n) (hk : k < n) : Off (V1 i) (V2 k) ∧ Off (V2 k) (V1 i) := by
  have hne : ∀ b, (V1 i).ownBlock = some b → (V2 k).ownBlock ≠ some b := fun b hb e => by
    have a1 := ((h1.each i hi).lt b hb).2
    have a2 := ((h2.each k hk).lt b e).1
    omega
  constructor
  · unfold Off
    cases e : (V2 k).ownBlock with
    | none => exact .inl rfl
    | some b => exact .inr (fun e2 => hne b e2.symm e)
  · unfold Off
    cases e : (V1 i).ownBlock with
    | none => exact .inl rfl
    | some b => exact .inr (fun e2 => hne b e e2.symm)

theorem pend_next {w : World} {B1 B2 g1 g2 n : Nat} {V1 V2 : Nat → Value} {C1 C2 : Nat → List Nat} {w1 : World} (h1 : Lots w1 B1 g1 n V1 C1) (h2 : Lots w B2 g2 n V2 C2) (hB : w1.heap.size ≤ B2) {i : Nat} (hi : i < n) {v1 v2 : Value} (e1 : V1 i = v1) (e2 : V2 i = v2) (v : Value) (hv : Pend V1 V2 n (i + 1) v) : (Pend V1 V2 n i v ∧ Off v v1) ∧ Off v v2 := by
  subst e1 e2
  obtain ⟨k, hk1, hk2, hk⟩ := hv
  refine ⟨⟨⟨k, by omega, hk2, hk⟩, ?_⟩, ?_⟩
  · rcases hk with rfl | rfl
    · exact h1.apart i k hi hk2 (by omega)
    · exact (two_off h1 h2 hB hi hk2).2
  · rcases hk with rfl | rfl
    · exact (two_off h1 h2 hB hk2 hi).1
    · exact h2.apart i k hi hk2 (by omega)

theorem idsT_at {P : List (List Nat)} {m : Nat} {x S1 S2 : List Nat} (h1 : S1 = idsT P m x) (h2 : S2 = standsT P m x) {j : Nat} (hj1 : j < S1.length) (hj2 : j < S2.length) : S1[j]'hj1 = P.idxOf (x.take (S2[j]'hj2)) := by
  subst h1 h2
  simp [idsT]

theorem standsT_few2 (P : List (List Nat)) (m : Nat) (x : List Nat) : (standsT P m x).length ≤ m := by
  unfold standsT
  refine Nat.le_trans (List.length_filter_le _ _) ?_
  simp
  omega

theorem find_at {w : World} {v : Value} {L : List ByteArray} (hv : Reads w v (strs L)) (hl : L.length ≤ 1000) {b : ByteArray} {i j m id : Nat} (hj : j = i + m) (hm : ((nums b).drop i).take m ∈ L.map nums) (hid : id = (L.map nums).idxOf (((nums b).drop i).take m)) :
    Calls Tryz.prog 17 #[v, .string (b.extract i j)] w fun e w' => e = .returned (.int .i64 (id : Int)) ∧ w' = w := by
  have h := find_word (s := b.extract i j) hv (by omega)
  rw [hj, nums_amid, wordOf, if_pos hm, ← hid] at h
  rw [hj]
  exact h

set_option maxRecDepth 20000 in
set_option maxHeartbeats 8000000 in
theorem tells_walk (v : Value) (L : List ByteArray) (b : ByteArray) (at0 : Int) (w : World) (h : ListIn w v L) :
    Calls Tryz.prog 3 #[v, .string b, .int .i64 at0] w fun e w' => e = .returned (.bool true) ∧ Below w.heap.size w w' := by
  have H := hid h
  obtain ⟨⟨a, ca, rfl, ha⟩, hq2, hq3⟩ := h
  rw [strs_length] at *
  clear ha hq2 hq3
  by_cases hf : FewL L
  · have hd1 : fewB L = true := decide_eq_true hf
    have hsz := hf.sizes
    have HSZ := hid hf.2
    by_cases hcond : b.size ≤ 150
    · have hdb : decide ((150 : Int) < (b.size : Int)) = false := decide_eq_false (by omega)
      have hdb2 : decide (150 < b.size) = false := decide_eq_false (by omega)
      rcases fine_or_bad L with hL | ⟨cd, a0, hL⟩
      · have HF := hid hL
        have hl100 := hL.1
        clear hL hsz hf
        obtain ⟨X, hX⟩ : ∃ X, X = asHits (hitsT (L.map nums) 0 [] (nums b)) := ⟨_, rfl⟩
        have HX := hid hX
        clear hX
        have HSM := hid ((fine_iff L).1 HF.out).2.1
        go_enter Tryz.func3, Tryz.ntmps3
        go_wp2_with (first
          | (go_at_call 4; refine (few_any H.out).mono ?_; rintro e w1 ⟨rfl, rfl⟩; rw [hd1])
          | (go_at_call 5; refine (alive_any _).mono ?_; rintro e w2 ⟨rfl, hb2⟩; have H2 := hid (H.out.below hb2); have HB2 := hid hb2; clear hb2)
          | (go_at_call 6; refine (phrases_fine H2.out.1 HF.out).mono ?_; rintro e w3 ⟨rfl, rfl⟩)
          | (go_at_call 7; refine (make_fine H2.out.1 HF.out).mono ?_; rintro e w4 ⟨p, rfl, hd4, hb4⟩; have HD := hid (dict_v hd4); have HL4 := hid (H2.out.1.below hb4); have HB4 := hid (below_more HB2.out hb4); clear hd4 hb4)
          | (go_at_call 10; refine (makeL_fine HL4.out HF.out).mono ?_; rintro e w5 ⟨l5, t5, rfl, hx5, hb5⟩; have HK5 : Hid (LinksV w5 (.pointer (some ⟨l5, 0, none⟩)) L) := .inr ⟨_, _, rfl, hx5⟩; have HD5 := hid (HD.out.below hb5); have HL5 := hid (HL4.out.below hb5); have HB5 := hid (below_more HB4.out hb5); clear hx5 hb5)
          | (go_at_call 9; refine (allV HK5.out HF.out b (by omega)).mono ?_; rintro e w6 ⟨v6, K, rfl, ho6, hb6⟩; obtain ⟨hK6, hK7⟩ := hits_bound HF.out (by omega) ho6; rw [← HX.out] at ho6 hK7; have hX6 : X.length ≤ 6000 := (by omega); have HR6 := hid (ownsRow_readsH ho6); have HD6 := hid (HD5.out.below hb6); have HL6 := hid (HL5.out.below hb6); have HB6 := hid (below_more HB5.out hb6); clear ho6 hb6 hK6 hK7)
          | (go_at_call 8; refine (lentH_any HR6.out (by omega)).mono ?_; rintro e w7 ⟨gh, ch, rfl, ho7, hc7, hb7⟩; have HO7 := hid ho7; have HC7 := hid hc7; have HR7 := hid (lentH_reads ho7 rfl); have HD7 := hid (HD6.out.below hb7); have HL7 := hid (HL6.out.below hb7); have HB7 := hid (below_more HB6.out hb7); clear ho7 hc7 hb7)
          | (have _h := HR7; at_builtin; refine wpList_append_hits _ rfl (.const (.slice none 0 0)) (.tmp 55) rfl w7.heap.size (.slice none 0 0) 0 [] rfl (World.ownsRow_nil _ _ _ _) _ X rfl HR7.out (by omega) (Nat.le_refl _) ?_; intro v8 w8 hown8 hgrow8 hat8 hold8; rw [List.nil_append, Nat.zero_add] at hown8; have hb8 : Below w7.heap.size w7 w8 := (Below.refl _ _).grown hgrow8 (Nat.le_refl _) (fun k hk => by simp [Value.ownBlock] at hk); have HW8 := hid (ownsRow_readsH hown8); have HO8 := hid (ownsRow_below HO7.out hb8); have HR8 := hid (HR7.out.below hb8); have HD8 := hid (HD7.out.below hb8); have HL8 := hid (HL7.out.below hb8); have HB8 := hid (below_more HB7.out hb8); clear hown8 hgrow8 hat8 hold8 hb8 _h)
          | (go_at_call 11; refine (starts_any HD8.out (by omega) HSM.out b.size (by omega) HR8.out (by omega)).mono ?_; rintro e w9 ⟨g1, V1, C1, rfl, hl9, hg9, ha9, hb9⟩; have HT1 := hid hl9; have HA1 := hid ha9; have HO9 := hid (ownsRow_below HO8.out hb9); have HW9 := hid (HW8.out.below hb9); have HD9 := hid (HD8.out.below hb9); have HL9 := hid (HL8.out.below hb9); have HB9 := hid (below_more HB8.out hb9); have HZ89 := hid hb9.size; clear hl9 hg9 ha9 hb9)
          | (go_at_call 12; refine (lengths_any HD9.out HF.out b (by omega)).mono ?_; rintro e w10 ⟨g2, V2, C2, CS2, rfl, hl10, hg10, ha10, hb10⟩; have HT2 := hid hl10; have HC2 := hid (lens_stands HF.out ha10); have HT12 := hid (HT1.out.below hb10); have HO10 := hid (ownsRow_below HO9.out hb10); have HW10 := hid (HW9.out.below hb10); have HD10 := hid (HD9.out.below hb10); have HL10 := hid (HL9.out.below hb10); have HB10 := hid (below_more HB9.out hb10); have HZ910 := hid hb10.size; obtain ⟨B, hBe⟩ : ∃ B, B = w10.heap.size := ⟨_, rfl⟩; have HBE := hid hBe; clear hl10 hg10 ha10 hb10 hBe)
          | (go_at_call 13; have hmx := Low.lowSet_new w10 w8.heap.size (Pend V1 V2 b.size 0); have hz : Below w10.heap.size w10 (w10.alloc (.cells #[.slice none 0 0, .slice none 0 0, .slice none 0 0, .slice none 0 0, .slice none 0 0, .slice none 0 0, .slice none 0 0, .slice none 0 0, .slice none 0 0, .slice none 0 0] 44)) := (Below.refl _ _).alloc (Nat.le_refl _) _; rw [← HBE.out] at hmx hz ⊢; generalize w10.alloc (.cells #[.slice none 0 0, .slice none 0 0, .slice none 0 0, .slice none 0 0, .slice none 0 0, .slice none 0 0, .slice none 0 0, .slice none 0 0, .slice none 0 0, .slice none 0 0] 44) = w11 at hmx hz ⊢; have hz2 : Below w10.heap.size w10 w11 := (by rw [← HBE.out]; exact hz); refine (staysH_any (ownsRow_below HO10.out hz2) HC7.out (HW10.out.below hz2) rfl (by omega)).mono ?_; rintro e w12 ⟨rfl, hb12⟩; have HS12 := hid (hmx.below hb12); have HZ12 := hid (hz.trans (hb12.mono (by rw [HBE.out]; exact hz2.size))); clear hmx hz hz2 hb12))


        have HB8s : Hid (w1.heap.size ≤ w8.heap.size) := HB8.out.size
        clear H H2 HB2 HD HL4 HB4 HK5 HD5 HL5 HB5 HR6 HD6 HL6 HB6 HO7 HC7 HR7 HD7 HL7 HB7 HW8 HO8 HR8 HD8 HL8 HB8 HO9 HW9 HD9 HL9 HB9 HO10 HW10
        have HLW : Hid (∀ W, Below B w10 W → Reads W (.slice a L.length ca) (strs L)) := fun W hW => HL10.out.below (by rw [← HBE.out]; exact hW)
        have HDW : Hid (∀ W, Below B w10 W → DictV W (.pointer (some ⟨p, 0, none⟩)) L) := fun W hW => HD10.out.below (by rw [← HBE.out]; exact hW)
        have HBW : Hid (∀ W, Below B w10 W → B ≤ W.heap.size) := fun W hW => by rw [HBE.out]; exact hW.size
        have HB0 : Hid (w8.heap.size ≤ B) := by show _ ≤ _; rw [HBE.out]; exact Nat.le_trans HZ89.out HZ910.out
        have HXM : Hid (∀ x, x ∈ X ↔ x ∈ asHits (hitsT (L.map nums) 0 [] (nums b))) := fun x => by rw [HX.out]
        have HC1 : Hid (∀ k, k < b.size → C1 k = idsT (L.map nums) 40 ((nums b).drop k)) := fun k hk => atOf_ids HF.out HXM.out (HA1.out k hk) (by omega)
        clear HL10 HD10 HA1 HXM HX
        go_loopw [87] (fun vi wr => ∃ i m : Nat, vi = .int .i64 i ∧ i ≤ b.size ∧ m ≤ 250 ∧ Hid (Low.LowSet wr w8.heap.size B m (Pend V1 V2 b.size i)) ∧ Hid (Below B w10 wr)) (fun vi _ => b.size - (intOf vi).toNat)
        case atStart => exact ⟨0, 0, rfl, by omega, by omega, HS12.out, HZ12.out⟩
        case round =>
          clear HS12 HZ12
          obtain ⟨i, m9, rfl, hi, hm9, hS, hZ⟩ := hrel
          by_cases hin : i < b.size
          · have hx : (decide ((0 : Int) ≤ (i : Int) ∧ (i : Int) < (b.size : Int))) = true := decide_eq_true ⟨by omega, by omega⟩
            obtain ⟨S1, hS1⟩ : ∃ S1, S1 = C1 i := ⟨_, rfl⟩
            obtain ⟨S2, hS2⟩ : ∃ S2, S2 = C2 i := ⟨_, rfl⟩
            obtain ⟨q, hq⟩ : ∃ q, q = S2.length := ⟨_, rfl⟩
            have e1 := HC1.out i hin
            have e2 := HC2.out i hin
            rw [← hS1] at e1
            rw [← hS2] at e2
            have hq1 : q = S1.length := by rw [hq, e1, e2, idsT_length]
            have hq40 : q ≤ 40 := by rw [hq, e2]; exact standsT_few2 _ _ _
            obtain ⟨a1, k1, hV1⟩ := ownsRow_slice (HT1.out.each i hin)
            obtain ⟨a2, k2, hV2⟩ := ownsRow_slice (HT2.out.each i hin)
            rw [← hS1, ← hq1] at hV1
            rw [← hS2, ← hq] at hV2
            have HV1 := hid hV1
            have HV2 := hid hV2
            have hq1l : (ints S1).length ≤ 50000 := by rw [ints_length]; omega
            have hq2l : (ints S2).length ≤ 50000 := by rw [ints_length]; omega
            have HCELL : Hid (∀ W, Below B w10 W → W.cell? ⟨g1, i, none⟩ = some (.slice a1 q k1) ∧ W.cell? ⟨g2, i, none⟩ = some (.slice a2 q k2) ∧ W.ownsRow w8.heap.size 3 1 (.slice a1 q k1) q (nats (ints S1)) ∧ W.ownsRow w8.heap.size 3 1 (.slice a2 q k2) q (nats (ints S2))) := fun W hW => by
              have hW2 : Below w10.heap.size w10 W := by rw [← HBE.out]; exact hW
              have t1 := HT12.out.below hW2
              have t2 := HT2.out.below hW2
              have r1 := t1.row.cell hin
              have r2 := t2.row.cell hin
              have o1 := t1.each i hin
              have o2 := ownsRow_lower (t2.each i hin) HZ89.out
              rw [hV1] at r1 o1
              rw [hV2] at r2 o2
              rw [← hS1, ← hq1, numsI_ints] at o1
              rw [← hS2, ← hq, numsI_ints] at o2
              exact ⟨r1, r2, o1, o2⟩
            have HOFF : Hid (Off (.slice a2 q k2) (.slice a1 q k1)) := by
              have h := (two_off HT1.out HT2.out (Nat.le_refl _) hin hin).2
              rw [HV1.out, HV2.out] at h
              exact h
            have HS2 := hid e2
            have HS1 := hid e1
            have HQ1 := hid hq1
            have HQ2 := hid hq
            obtain ⟨c1, c2, _, _⟩ := HCELL.out _ hZ.out
            clear hV1 hV2 e1 e2 hq1 hq hS1 hS2
            go_wp2_with (first
              | (go_at_call 16; refine (sameInts_any (xs := ints S2) (ys := ints S2) HR2D.out (by rw [← numsI_ints]; exact ownsRow_reads HO16.out) (by omega) (by omega)).mono ?_; rintro e wE ⟨rfl, hbE⟩; rw [decide_eq_true rfl]; have HO16E := hid (ownsRow_below HO16.out hbE); have HZE := hid (HZD.out.trans (hbE.mono (HBW.out _ HZD.out))); have HSE := hid (HSD.out.below hbE); obtain ⟨c1, c2, o1, o2⟩ := HCELL.out _ HZE.out; clear hbE o1 o2 HO16 HZD HSD HR2D)
              | (have _h := HSC; go_at_call 15; refine (stands_any (HLW.out _ HZC.out) (by omega) b (by omega) i hin).mono ?_; rintro e wD ⟨v16, rfl, ho16, hbD⟩; rw [← HS2.out, ← HQ2.out] at ho16; obtain ⟨a16, c16, rfl⟩ := ownsRow_slice ho16; have HO16 := hid ho16; have HZD := hid (HZC.out.trans (hbD.mono (HBW.out _ HZC.out))); have HSD := hid (HSC.out.below hbD); obtain ⟨c1, c2, o1, o2⟩ := HCELL.out _ HZD.out; have HR2D := hid (ownsRow_reads o2); clear ho16 hbD o1 o2 HSC HZC _h)
              | (have _h := HSA; go_at_call 14; refine (Low.LowSet.keep (v := .slice a2 q k2) (X := ints S2) HSA.out ⟨⟨i, Nat.le_refl _, hin, .inr HV2.out.symm⟩, HOFF.out⟩ hmA (HCELL.out _ HZA.out).2.2.2 hq2l (HBW.out _ HZA.out)).mono ?_; rintro e wC ⟨rfl, ⟨mC, hmC, hsC⟩, hbC⟩; have HSC := hid (hsC.less (fun v hv => pend_next HT1.out HT2.out (Nat.le_refl _) hin HV1.out HV2.out v hv)); have HZC := hid (HZA.out.trans hbC); clear hsC hbC c1 c2 HSA HZA _h)
              | (go_at_call 14; refine (Low.LowSet.keep (v := .slice a1 q k1) (X := ints S1) hS.out ⟨i, Nat.le_refl _, hin, .inl HV1.out.symm⟩ hm9 (HCELL.out _ hZ.out).2.2.1 hq1l (HBW.out _ hZ.out)).mono ?_; rintro e wA ⟨rfl, ⟨mA, hmA, hsA⟩, hbA⟩; have HSA := hid hsA; have HZA := hid (hZ.out.trans hbA); obtain ⟨c1, c2, _, _⟩ := HCELL.out _ HZA.out; clear hsA hbA))
            go_loopw [125] (fun vk wr2 => ∃ j : Nat, vk = .int .i64 j ∧ j ≤ q ∧ Hid (Below wE.heap.size wE wr2)) (fun vk _ => q - (intOf vk).toNat)
            case atStart => exact ⟨0, rfl, by omega, Below.refl _ _⟩
            case round =>
              obtain ⟨j, rfl, hj, hbw⟩ := hrel
              have HZr := hid (HZE.out.trans (hbw.out.mono (HBW.out _ HZE.out)))
              clear c1 c2
              by_cases hjq : j < q
              · obtain ⟨c1, c2, o1, _⟩ := HCELL.out _ HZr.out
                obtain ⟨ga, ka, e1, _, _⟩ := o1.form (by omega)
                injection e1 with e1 e2 e3
                subst e1
                have d1 := o1.cellAt j (by omega)
                have o16 := ownsRow_below HO16E.out hbw.out
                obtain ⟨gb, kb, e4, _, _⟩ := o16.form (by omega)
                injection e4 with e4 e5 e6
                subst e4
                have d2 := o16.cellAt j (by omega)
                have hj2 : j < S2.length := by rw [← HQ2.out]; exact hjq
                have hj1 : j < S1.length := by rw [← HQ1.out]; exact hjq
                rw [numsI_at _ j hj2] at d2
                rw [← numsI_ints, numsI_at _ j hj1] at d1
                obtain ⟨n, hn⟩ : ∃ n, n = S2[j]'hj2 := ⟨_, rfl⟩
                obtain ⟨id, hid0⟩ : ∃ id, id = S1[j]'hj1 := ⟨_, rfl⟩
                rw [← hn] at d2
                rw [← hid0] at d1
                have hmem : n ∈ standsT (L.map nums) 40 ((nums b).drop i) := by rw [hn, ← HS2.out]; exact List.getElem_mem _
                obtain ⟨hn1, hn2, hn3⟩ := (standsT_mem (L.map nums) 40 (phrases_short HF.out) _ n).1 hmem
                have hidx : id = (L.map nums).idxOf (((nums b).drop i).take n) := by
                  have h := idsT_at (P := L.map nums) (m := 40) (x := (nums b).drop i) (S1 := S1) (S2 := S2) HS1.out HS2.out hj1 hj2
                  rw [hid0, h, ← hn]
                rw [List.length_drop, nums_length] at hn2
                obtain ⟨j2, hj2e⟩ : ∃ j2, j2 = i + n := ⟨_, rfl⟩
                have hsum : (i : Int) + (n : Int) = (j2 : Int) := by omega
                have hsl := fun W => slice_amid b i j2 (by omega) (by omega) W
                have HFD := fun W (hW : Below B w10 W) => find_at (HLW.out W hW) (by omega) hj2e hn3 hidx
                have hxj : (decide ((0 : Int) ≤ (j : Int) ∧ (j : Int) < (q : Int))) = true := decide_eq_true ⟨by omega, by omega⟩
                have hbn : ((id : Int) != (id : Int)) = false := by simp
                clear hn hid0 hmem hidx hn3 hj2e o1 o16 e2 e3 e5 e6
                generalize b.extract i j2 = s at hsl HFD
                have HFDh := hid HFD
                clear HFD
                go_wp2
                go_quiet ((go_at_call 17; exact Calls.quiet_of_same (HFDh.out _ (HZr.out.trans (drewN_below _ _ _)))))
                have hbq := hid (below_more hbw.out (drewN_below wr nq _))
                clear c1 c2 d1 d2 hbw HZr HFDh
                generalize wr.drewN nq = wF at hbq ⊢
                go_wp2
                go_roundw
                case rel => exact ⟨j + 1, by go_num, by omega, hbq.out⟩
                case measure => simp [intOf]; omega
              · have HSN := hid (HSE.out.below hbw.out)
                go_wp2
                go_roundw
                case rel => exact ⟨i + 1, mC, by go_num, by omega, hmC, HSN.out, HZr.out⟩
                case measure => simp [intOf]; omega
          · have HSZF := hid hS.out
            have HWB : Hid (w1.heap.size ≤ B) := Nat.le_trans HB8s.out HB0.out
            clear hS
            rcases (show (at0 < 0 ∨ (b.size : Int) ≤ at0) ∨ ∃ i : Nat, at0 = (i : Int) ∧ i < b.size by
                by_cases h1 : at0 < 0
                · exact .inl (.inl h1)
                · by_cases h2 : (b.size : Int) ≤ at0
                  · exact .inl (.inr h2)
                  · exact .inr ⟨at0.toNat, by omega, by omega⟩) with hoff | ⟨i, rfl, hib⟩
            · rcases (show at0 < 0 ∨ (0 ≤ at0 ∧ (b.size : Int) ≤ at0) by omega) with h0 | ⟨h0, h1⟩
              · have hd0 : decide ((0 : Int) ≤ at0) = false := decide_eq_false (by omega)
                go_wp2_with (first
                  | (go_at_call_of 18 (Value.pointer (some ⟨p, 0, none⟩)); refine (longest_off _ _ b at0 hoff).mono ?_; rintro e wL ⟨rfl, rfl⟩)
                  | (go_at_call_of 18 (Value.pointer none); refine (longest_none _ b (by omega) _).mono ?_; rintro e wN ⟨rfl, rfl⟩)
                  | (go_at_call 19; refine (Low.LowSet.alone HSZF.out hm9 (HBW.out _ hZ.out) HB0.out).mono ?_; rintro e wZ ⟨rfl, hbZ⟩; have HZZ := hid ((HB10.out.trans (hZ.out.mono HWB.out)).trans (hbZ.mono HB8s.out)); clear hbZ))
                go_ret
                exact ⟨by simp, HZZ.out⟩
              · have hd0 : decide ((0 : Int) ≤ at0) = true := decide_eq_true h0
                have hd0' : decide (at0 < (b.size : Int)) = false := decide_eq_false (by omega)
                go_wp2_with (first
                  | (go_at_call_of 18 (Value.pointer (some ⟨p, 0, none⟩)); refine (longest_off _ _ b at0 hoff).mono ?_; rintro e wL ⟨rfl, rfl⟩)
                  | (go_at_call_of 18 (Value.pointer none); refine (longest_none _ b (by omega) _).mono ?_; rintro e wN ⟨rfl, rfl⟩)
                  | (go_at_call 19; refine (Low.LowSet.alone HSZF.out hm9 (HBW.out _ hZ.out) HB0.out).mono ?_; rintro e wZ ⟨rfl, hbZ⟩; have HZZ := hid ((HB10.out.trans (hZ.out.mono HWB.out)).trans (hbZ.mono HB8s.out)); clear hbZ))
                go_ret
                exact ⟨by simp, HZZ.out⟩
            · have hdi : decide ((i : Int) < (b.size : Int)) = true := decide_eq_true (by omega)
              have hdi2 : decide (i < b.size) = true := decide_eq_true hib
              cases hSS : standsT (L.map nums) 40 ((nums b).drop i) with
              | nil =>
                have HLG := hid (longest_nil (HDW.out _ hZ.out) HF.out b (by omega) i hib hSS)
                go_wp2_with (first
                  | (go_at_call_of 18 (Value.pointer (some ⟨p, 0, none⟩)); refine (HLG.out).mono ?_; rintro e wL ⟨rfl, rfl⟩)
                  | (go_at_call 15; refine (stands_any (HLW.out _ hZ.out) (by omega) b (by omega) i hib).mono ?_; rintro e wS ⟨vS, rfl, hoS, hbS⟩; rw [hSS] at hoS; obtain ⟨aS, cS, rfl⟩ := ownsRow_slice hoS; have HSF2 := hid (HSZF.out.below hbS); have HZF2 := hid (hZ.out.trans (hbS.mono (HBW.out _ hZ.out))); clear hoS hbS)
                  | (go_at_call_of 18 (Value.pointer none); refine (longest_none _ b (by omega) _).mono ?_; rintro e wN ⟨rfl, rfl⟩)
                  | (go_at_call 19; refine (Low.LowSet.alone HSF2.out hm9 (HBW.out _ HZF2.out) HB0.out).mono ?_; rintro e wZ ⟨rfl, hbZ⟩; have HZZ := hid ((HB10.out.trans (HZF2.out.mono HWB.out)).trans (hbZ.mono HB8s.out)); clear hbZ))
                go_ret
                exact ⟨by simp, HZZ.out⟩
              | cons m l =>
                obtain ⟨hm1, hm2, hm3⟩ := (standsT_mem (L.map nums) 40 (phrases_short HF.out) ((nums b).drop i) m).1 (by rw [hSS]; simp)
                obtain ⟨id, hid1⟩ : ∃ id, id = (L.map nums).idxOf (((nums b).drop i).take m) := ⟨_, rfl⟩
                have HLG := hid (longest_cons (HDW.out _ hZ.out) HF.out b (by omega) i hib m id l hSS hid1)
                rw [List.length_drop, nums_length] at hm2
                obtain ⟨j2, hj2e⟩ : ∃ j2, j2 = i + m := ⟨_, rfl⟩
                have hsum : (i : Int) + (m : Int) = (j2 : Int) := by omega
                have hsl := fun W => slice_amid b i j2 (by omega) (by omega) W
                have HFD := fun W (hW : Below B w10 W) => find_at (HLW.out W hW) (by omega) hj2e hm3 hid1
                obtain ⟨qS, hqS⟩ : ∃ qS, qS = (m :: l).length := ⟨_, rfl⟩
                have hq1 : 0 < qS := by rw [hqS]; simp
                have hq2 : qS ≤ 40 := by rw [hqS, ← hSS]; exact standsT_few2 _ _ _
                have hqp : decide ((0 : Int) < (qS : Int)) = true := decide_eq_true (by omega)
                have hx0 : (decide ((0 : Int) ≤ 0 ∧ (0 : Int) < (qS : Int))) = true := decide_eq_true ⟨by omega, by omega⟩
                have HQS := hid hqS
                have HSS := hid hSS
                have hee : ((id : Int) == (id : Int)) = true := by simp
                have hmm : ((m : Int) == (m : Int)) = true := by simp
                generalize b.extract i j2 = s at hsl HFD
                have HFDh := hid HFD
                clear HFD hid1 hm3 hj2e hqS hSS
                go_wp2_with (first
                  | (go_at_call_of 18 (Value.pointer (some ⟨p, 0, none⟩)); refine (HLG.out).mono ?_; rintro e wL ⟨rfl, rfl⟩)
                  | (go_at_call 15; refine (stands_any (HLW.out _ hZ.out) (by omega) b (by omega) i hib).mono ?_; rintro e wS ⟨vS, rfl, hoS, hbS⟩; rw [HSS.out, ← HQS.out] at hoS; obtain ⟨gS, cS, rfl, _, _⟩ := hoS.form (by omega); have eS := hoS.cellAt 0 (by omega); rw [numsI_at _ 0 (by simp)] at eS; simp only [List.getElem_cons_zero] at eS; have HSF2 := hid (HSZF.out.below hbS); have HZF2 := hid (hZ.out.trans (hbS.mono (HBW.out _ hZ.out))); clear hoS hbS))
                go_quiet ((go_at_call 17; exact Calls.quiet_of_same (HFDh.out _ (HZF2.out.trans (drewN_below _ _ _)))))
                have HZF3 := hid (HZF2.out.trans (drewN_below wS nq B))
                have HSF3 := hid (HSF2.out.below (drewN_below wS nq _))
                clear eS HZF2 HSF2
                generalize wS.drewN nq = wT at HZF3 HSF3 ⊢
                go_wp2_with (first
                  | (go_at_call_of 18 (Value.pointer none); refine (longest_none _ b (by omega) _).mono ?_; rintro e wN ⟨rfl, rfl⟩)
                  | (go_at_call 19; refine (Low.LowSet.alone HSF3.out hm9 (HBW.out _ HZF3.out) HB0.out).mono ?_; rintro e wZ ⟨rfl, hbZ⟩; have HZZ := hid ((HB10.out.trans (HZF3.out.mono HWB.out)).trans (hbZ.mono HB8s.out)); clear hbZ))
                go_ret
                exact ⟨by simp, HZZ.out⟩
      · go_enter Tryz.func3, Tryz.ntmps3
        have hc0 : ¬ cd = 0 := bad_code hL
        go_wp2_with (first
          | (go_at_call 4; refine (few_any H.out).mono ?_; rintro e w1 ⟨rfl, rfl⟩; rw [hd1])
          | (go_at_call 5; refine (alive_any _).mono ?_; rintro e w2 ⟨rfl, hb2⟩; have H2 := hid (H.out.below hb2))
          | (go_at_call 6; refine (phrases_bad H2.out.1 hsz.1 (fun s hs => by have := hsz.2 s hs; omega) hL).mono ?_; rintro e w3 ⟨rfl, rfl⟩))
        go_ret
        exact ⟨rfl, hb2⟩
    · have hdb : decide ((150 : Int) < (b.size : Int)) = true := decide_eq_true (by omega)
      have hdb2 : decide (150 < b.size) = true := decide_eq_true (by omega)
      go_enter Tryz.func3, Tryz.ntmps3
      go_wp2_with (first
        | (go_at_call 4; refine (few_any H.out).mono ?_; rintro e w1 ⟨rfl, rfl⟩; rw [hd1])
        | (go_at_call 5; refine (alive_any _).mono ?_; rintro e w2 ⟨rfl, hb2⟩))
      go_ret
      exact ⟨rfl, hb2⟩
  · have hd1 : fewB L = false := decide_eq_false hf
    go_enter Tryz.func3, Tryz.ntmps3
    go_wp2_with (first
      | (go_at_call 4; refine (few_any H.out).mono ?_; rintro e w1 ⟨rfl, rfl⟩; rw [hd1])
      | (go_at_call 5; refine (alive_any _).mono ?_; rintro e w2 ⟨rfl, hb2⟩))
    go_ret
    exact ⟨rfl, hb2⟩

set_option linter.unusedVariables false
theorem hitsTells_own : ownKnob Tryz.prog.godebug = none := by kernel_rfl

theorem hitsTells_laidOut : laidOutB Tryz.prog = true := by kernel_rfl

set_option maxRecDepth 100000 in
theorem hitsTells_lifted (os : Os) (started : os.Started) (H : Type) (enc : TypeId × Value → H) :
    ReturnsInHanded {} Tryz.checked os 3 .any (Rows.hitsTellsSpec.pre6 enc Tryz.prog Tryz.f3 Rows.hitsTellsRow.domain false) (Rows.hitsTellsSpec.post enc Tryz.prog Tryz.f3 false true false false) := by
  refine returnsInHanded_of_change_sized (C := Tryz.checked) hitsTells_own started (by kernel_rfl) Tryz.func3
    (ChangeSpec.witness6 (enc := enc) (C := Tryz.checked) false ⟨#[], #[.slice none 0 0, .string ByteArray.empty, .int .i64 0], []⟩ 8 (by kernel_rfl) (by kernel_rfl) (by kernel_rfl) (by kernel_rfl)) ?_
  intro W base args ds gs before hval0 hW hcnd hsz0 _
  have hsz : (DataW.weightsEach Tryz.prog (Tryz.f3.params.toList ++ Rows.hitsTellsSpec.plain.varTypes Tryz.prog) (ds ++ gs)).all (· ≤ reachBytes) = true := hsz0
  have hval : ∀ (j : Nat) t v, Tryz.f3.params[j]? = some t → args[j]? = some v → Value.okWide Tryz.prog W .any base t v := hval0
  have hW' := hW
  obtain ⟨p, q, hA0, hV, rfl, hfz, hnd⟩ := hW
  have hA : DataW.TrodAll enc Tryz.prog W 0 (fun _ => true) true Tryz.f3.params.toList args.toList ds p := hA0
  rw [Tryz.params3] at hA hval hsz
  obtain ⟨v0, vs0, d0, ds0, p0, q0, hargs, rfl, rfl, h0, r0⟩ := trodAll_cons hA
  obtain ⟨v1, vs1, d1, ds1, p1, q1, rfl, rfl, rfl, h1, r1⟩ := trodAll_cons r0
  obtain ⟨v2, vs2, d2, ds2, p2, q2, rfl, rfl, rfl, h2, r2⟩ := trodAll_cons r1
  obtain ⟨rfl, rfl, rfl⟩ := trodAll_nil r2
  obtain rfl : args = #[v0, v1, v2] := by cases args; simp_all
  obtain ⟨rfl, rfl⟩ := trodVars_none hV
  obtain ⟨a0, len0, cap0, rfl⟩ := okWide_slice Tryz.underlying22 (hval 0 22 v0 rfl rfl)
  have k0 := h0
  have lt0 : ∀ x ∈ p0, x.block < W.heap.size := by obtain ⟨m, hm⟩ := k0; exact DataW.trod_lt m _ _ _ hm
  obtain ⟨z0, w0⟩ := h0.elim (fun _ hf => open_list hf hsz 0 rfl rfl)
  obtain ⟨a1, rfl, rfl, rfl, w1⟩ := open_string Tryz.underlying9 (hval 1 9 v1 rfl rfl) h1
  obtain ⟨a2, rfl, rfl, rfl, w2⟩ := open_int Tryz.underlying3 (hval 2 3 v2 rfl rfl) h2
  clear hA0 hval0
  have s1 : a1.size ≤ 140737488351232 := by have h := sized_string hsz (j := 1) (t := 9) rfl rfl; rw [Array.length_toList] at h; exact h
  refine (tells_walk _ z0 a1 a2 W w0).mono fun e W' ⟨he, bel⟩ => ?_
  subst he
  exact ⟨_, rfl, _, _, _, [], _, [], hW', trodAll_mk1 (shut_bool Tryz.underlying4 _), (trodAll_cons_mk (Below.trod hitsTells_laidOut (by kernel_rfl) (of_decide_eq_true (by kernel_rfl)) k0 bel lt0) (trodAll_cons_mk (shut_string Tryz.underlying9 w1) (trodAll_cons_mk (shut_int Tryz.underlying3 w2) trodAll_mk0))), rfl, bel.frame _, fun h => by cases h⟩

/-- THE STATEMENT. -/
theorem hitsTells_holds : Rows.HitsTellsSaid :=
  OpenClaim.holds_of_wide 3 Tryz.f3 rfl rfl rfl rfl rfl rfl rfl ⟨rfl, rfl, rfl, rfl, rfl⟩ rfl rfl rfl rfl rfl (by kernel_rfl) Tryz.func3 (by kernel_rfl)
    (of_decide_eq_true (by kernel_rfl)) (by unfold Func.isWrapper; first | (rw [if_pos (by decide +kernel)]; kernel_rfl) | (rw [if_neg (by decide +kernel)]; exact ⟨rfl, rfl⟩))
    (fun os started H enc _ => hitsTells_lifted os started H enc)
#print axioms hitsTells_holds
end Go.Proofs.YtfeibhdnmfiflaaGreat
