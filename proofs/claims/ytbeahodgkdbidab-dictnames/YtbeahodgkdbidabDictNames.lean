/-
  DictNames: dictionaries of other phrases have other bytes; of the same ones the same bytes and names. For every two lists of texts.
-/
import Derived.Test.YtbeahodgkdbidabHelps
import Derived.ChangeOld
import Derived.SizedLaws
namespace Go.Proofs.Ytbeahodgkdbidab
open Go.ChangeShapes Go.WideShapes Go.ChangeAt Go.RowKit

theorem last_same {α : Type} {A B C D : List α} {x y : α} (h1 : A = B ++ [x]) (h2 : C = D ++ [y]) (h3 : B = D) (h : A = C) : x = y := by
  rw [h1, h2, h3] at h
  simpa using h
theorem take_less {α : Type} {L M : List α} {i : Nat} (h : L.take (i + 1) = M.take (i + 1)) : L.take i = M.take i := by
  have := congrArg (List.take i) h
  rw [List.take_take, List.take_take, Nat.min_eq_left (by omega)] at this
  exact this

set_option maxRecDepth 20000 in
set_option maxHeartbeats 4000000 in
theorem names_walk (v u : Value) (L M : List ByteArray) (w : World) (h : ListIn w v L) (k : ListIn w u M) :
    Calls Try.prog 4 #[v, u] w fun e w' => e = .returned (.bool true) ∧ Below w.heap.size w w' := by
  have H := hid h
  have K := hid k
  by_cases hf : FewL L
  · have hd1 : fewB L = true := decide_eq_true hf
    by_cases hg : FewL M
    · have hd2 : fewB M = true := decide_eq_true hg
      have hsz := hf.sizes
      have hsy := hg.sizes
      rcases fine_or_bad L with hL | ⟨c, a0, hL⟩
      · rcases fine_or_bad M with hM | ⟨c, a0, hM⟩
        · obtain ⟨⟨a, ca, rfl, ha⟩, _, _⟩ := h
          obtain ⟨⟨b, cb, rfl, hb⟩, _, _⟩ := k
          rw [strs_length] at *
          rw [strs_length] at *
          have HA := hid ha
          have HB := hid hb
          have hl := hL.1
          have hm := hM.1
          clear ha hb hf hg
          have HLM := hid (Fine.bounds hL)
          have HMM := hid (Fine.bounds hM)
          generalize hn : L.length = n at HA H hl
          generalize hn2 : M.length = m at HB K hm
          have HN := hid hn
          have HM := hid hn2
          clear hn hn2 hsz hsy
          go_enter Try.func4, Try.ntmps4
          go_wp2_with (first
            | (have _h := l1; go_at_call 5; refine (few_any K.out).mono ?_; rintro e w1 ⟨rfl, rfl⟩; rw [hd2])
            | (go_at_call 5; refine (few_any H.out).mono ?_; rintro e w1 ⟨rfl, rfl⟩; rw [hd1]; have l1 : True := trivial)
            | (go_at_call 6; refine (alive_any _).mono ?_; rintro e w2 ⟨rfl, hb2⟩; have H2 := hid (H.out.below hb2); have K2 := hid (K.out.below hb2))
            | (have _h := l2; go_at_call 7; refine (make_fine K3.out.1 hM).mono ?_; rintro e w4 ⟨q, rfl, he, hb4⟩; have HE := hid he; have hw4 := hid (below_more hw3.out hb4))
            | (go_at_call 7; refine (make_fine H2.out.1 hL).mono ?_; rintro e w3 ⟨p, rfl, hd, hb3⟩; have HD := hid hd; have hw3 := hid (below_more hb2 hb3); have K3 := hid (K2.out.below hb3); have l2 : True := trivial))
          have HD4 := hid (HD.out.below hb4)
          clear hd he hb2 hb3 hb4
          go_loopw [7, 39] (fun vs vi wr => ∃ (i : Nat) (s : Bool), vs = .bool s ∧ vi = .int .i64 i ∧ i ≤ n ∧ Hid (s = true ↔ (n = m ∧ L.take i = M.take i)) ∧ Hid (Below w4.heap.size w4 wr)) (fun _ vi _ => n - (intOf vi).toNat)
          case atStart => exact ⟨0, _, rfl, rfl, by omega, by simp [Hid]; omega, Below.refl _ _⟩
          case round =>
            obtain ⟨i, s, rfl, rfl, hi, hs, hbl⟩ := hrel
            by_cases hin : i < n
            · rcases HA.out with h | ⟨gb, o, rfl, hgb, hcell⟩
              · omega
              have hiL : i < L.length := by rw [HN.out]; exact hin
              have hca := keeps hbl.out _ _ (keeps hw4.out ⟨gb, o + i, none⟩ _ ((hcell i hin).trans (strs_at L i hiL)))
              have hx' : (decide ((0 : Int) ≤ (i : Int) ∧ (i : Int) < (n : Int))) = true := decide_eq_true ⟨by omega, by omega⟩
              clear hcell
              have htkL : Hid (L.take (i + 1) = L.take i ++ [L[i]'hiL]) := List.take_succ_eq_append_getElem hiL
              generalize L[i]'hiL = x at hca htkL
              cases s with
              | false =>
                have hno := hs.out
                simp only [Bool.false_eq_true, false_iff] at hno
                have HNO := hid hno
                clear hno hs hiL
                go_wp2
                go_region
                all_goals go_wp2
                all_goals go_roundw
                case rel =>
                  refine ⟨i + 1, false, rfl, by go_num, by omega, ⟨fun h => (by cases h), fun h => absurd ⟨h.1, take_less h.2⟩ HNO.out⟩, by first | exact hbl.out.drew | exact hbl.out⟩
                case measure => simp [intOf]; omega
              | true =>
                obtain ⟨hnm, htk⟩ := hs.out.1 rfl
                have HNM := hid hnm
                have HTK := hid htk
                have him : i < m := by omega
                rcases HB.out with h | ⟨gc, o2, rfl, hgc, hcell2⟩
                · omega
                have hiM : i < M.length := by rw [HM.out]; exact him
                have hcc := keeps hbl.out _ _ (keeps hw4.out ⟨gc, o2 + i, none⟩ _ ((hcell2 i him).trans (strs_at M i hiM)))
                have hx2 : (decide ((0 : Int) ≤ (i : Int) ∧ (i : Int) < (m : Int))) = true := decide_eq_true ⟨by omega, by omega⟩
                clear hcell2 hnm htk hs
                have htkM : Hid (M.take (i + 1) = M.take i ++ [M[i]'hiM]) := List.take_succ_eq_append_getElem hiM
                generalize M[i]'hiM = y at hcc htkM
                clear hiM hiL
                by_cases hxy : x = y
                · have hxb := text_eq hxy
                  have HXY := hid hxy
                  clear hxy
                  go_wp2
                  go_region
                  all_goals go_wp2
                  all_goals go_roundw
                  case rel => exact ⟨i + 1, true, rfl, by go_num, by omega, ⟨fun _ => ⟨HNM.out, by rw [htkL.out, htkM.out, HTK.out, HXY.out]⟩, fun _ => rfl⟩, by first | exact hbl.out.drew | exact hbl.out⟩
                  case measure => simp [intOf]; omega
                · have hxb := text_ne hxy
                  have HXY := hid hxy
                  clear hxy
                  go_wp2
                  go_region
                  all_goals go_wp2
                  all_goals go_roundw
                  case rel =>
                    refine ⟨i + 1, false, rfl, by go_num, by omega, ⟨fun h => (by cases h), fun h => absurd (last_same htkL.out htkM.out HTK.out h.2) HXY.out⟩, by first | exact hbl.out.drew | exact hbl.out⟩
                  case measure => simp [intOf]; omega
            · obtain rfl : i = n := by omega
              have HP := hid (HD4.out.below hbl.out)
              have HQ := hid (HE.out.below hbl.out)
              have hwr := hid (below_more hw4.out hbl.out)
              have htL : L.take i = L := List.take_of_length_le (by rw [HN.out]; omega)
              cases s with
              | true =>
                obtain ⟨hnm, htk⟩ := hs.out.1 rfl
                have htM : M.take i = M := List.take_of_length_le (by rw [HM.out]; omega)
                rw [htL, htM] at htk
                subst htk
                clear htM htL hs hnm
                go_wp2_with (first
                  | (have _h := k3; go_at_call 12; refine (id_any HQ3.out HLM.out.1 HLM.out.2.1 (Nat.le_trans HLM.out.2.2 (by decide))).mono ?_; rintro e w8 ⟨rfl, hb8⟩; have hw8 := hid (below_more hw7.out hb8))
                  | (have _h := k2; go_at_call 12; refine (id_any HP2.out HLM.out.1 HLM.out.2.1 (Nat.le_trans HLM.out.2.2 (by decide))).mono ?_; rintro e w7 ⟨rfl, hb7⟩; have hw7 := hid (below_more hw6.out hb7); have HQ3 := hid (HQ2.out.below hb7); have k3 : True := trivial)
                  | (have _h := k1; go_at_call 11; refine (bytes_any HQ1.out HLM.out.1 HLM.out.2.1 (Nat.le_trans HLM.out.2.2 (by decide))).mono ?_; rintro e w6 ⟨rfl, hb6⟩; have hw6 := hid (below_more hw5.out hb6); have HP2 := hid (HP1.out.below hb6); have HQ2 := hid (HQ1.out.below hb6); have k2 : True := trivial)
                  | (go_at_call 11; refine (bytes_any HP.out HLM.out.1 HLM.out.2.1 (Nat.le_trans HLM.out.2.2 (by decide))).mono ?_; rintro e w5 ⟨rfl, hb5⟩; have hw5 := hid (below_more hwr.out hb5); have HP1 := hid (HP.out.below hb5); have HQ1 := hid (HQ.out.below hb5); have k1 : True := trivial))
                go_ret
                exact ⟨rfl, hw8.out⟩
              | false =>
                have hne : L ≠ M := by
                  rintro rfl
                  exact absurd (hs.out.2 ⟨by rw [← HM.out, HN.out], rfl⟩) (by simp)
                have henc : enc L ≠ enc M := fun h => hne (enc_inj L M (Nat.lt_of_le_of_lt HLM.out.1 (by decide)) HLM.out.2.1 (Nat.lt_of_le_of_lt HMM.out.1 (by decide)) HMM.out.2.1 h)
                have htx := text_ne henc
                clear htL hs hne henc
                go_wp2_with (first
                  | (have _h := k1; go_at_call 11; refine (bytes_any HQ1.out HMM.out.1 HMM.out.2.1 (Nat.le_trans HMM.out.2.2 (by decide))).mono ?_; rintro e w6 ⟨rfl, hb6⟩; have hw6 := hid (below_more hw5.out hb6))
                  | (go_at_call 11; refine (bytes_any HP.out HLM.out.1 HLM.out.2.1 (Nat.le_trans HLM.out.2.2 (by decide))).mono ?_; rintro e w5 ⟨rfl, hb5⟩; have hw5 := hid (below_more hwr.out hb5); have HQ1 := hid (HQ.out.below hb5); have k1 : True := trivial))
                go_ret
                exact ⟨rfl, hw6.out⟩
        · go_enter Try.func4, Try.ntmps4
          go_wp2_with (first
            | (have _h := l1; go_at_call 5; refine (few_any K.out).mono ?_; rintro e w1 ⟨rfl, rfl⟩; rw [hd2])
            | (go_at_call 5; refine (few_any H.out).mono ?_; rintro e w1 ⟨rfl, rfl⟩; rw [hd1]; have l1 : True := trivial)
            | (go_at_call 6; refine (alive_any _).mono ?_; rintro e w2 ⟨rfl, hb2⟩; have H2 := hid (H.out.below hb2); have K2 := hid (K.out.below hb2))
            | (have _h := l2; go_at_call 7; refine (make_bad K3.out.1 hsy.1 (fun s hs => by have := hsy.2 s hs; omega) hM).mono ?_; rintro e w4 ⟨rfl, hb4⟩; have hw4 := hid (below_more hw3.out hb4))
            | (go_at_call 7; refine (make_fine H2.out.1 hL).mono ?_; rintro e w3 ⟨p, rfl, hd, hb3⟩; have HD := hid hd; have hw3 := hid (below_more hb2 hb3); have K3 := hid (K2.out.below hb3); have l2 : True := trivial))
          go_ret
          exact ⟨rfl, hw4.out⟩
      · rcases fine_or_bad M with hM | ⟨c', a0', hM⟩
        · go_enter Try.func4, Try.ntmps4
          go_wp2_with (first
            | (have _h := l1; go_at_call 5; refine (few_any K.out).mono ?_; rintro e w1 ⟨rfl, rfl⟩; rw [hd2])
            | (go_at_call 5; refine (few_any H.out).mono ?_; rintro e w1 ⟨rfl, rfl⟩; rw [hd1]; have l1 : True := trivial)
            | (go_at_call 6; refine (alive_any _).mono ?_; rintro e w2 ⟨rfl, hb2⟩; have H2 := hid (H.out.below hb2); have K2 := hid (K.out.below hb2))
            | (have _h := l2; go_at_call 7; refine (make_fine K3.out.1 hM).mono ?_; rintro e w4 ⟨q, rfl, he, hb4⟩; have HE := hid he; have hw4 := hid (below_more hw3.out hb4))
            | (go_at_call 7; refine (make_bad H2.out.1 hsz.1 (fun s hs => by have := hsz.2 s hs; omega) hL).mono ?_; rintro e w3 ⟨rfl, hb3⟩; have hw3 := hid (below_more hb2 hb3); have K3 := hid (K2.out.below hb3); have l2 : True := trivial))
          go_ret
          exact ⟨rfl, hw4.out⟩
        · go_enter Try.func4, Try.ntmps4
          go_wp2_with (first
            | (have _h := l1; go_at_call 5; refine (few_any K.out).mono ?_; rintro e w1 ⟨rfl, rfl⟩; rw [hd2])
            | (go_at_call 5; refine (few_any H.out).mono ?_; rintro e w1 ⟨rfl, rfl⟩; rw [hd1]; have l1 : True := trivial)
            | (go_at_call 6; refine (alive_any _).mono ?_; rintro e w2 ⟨rfl, hb2⟩; have H2 := hid (H.out.below hb2); have K2 := hid (K.out.below hb2))
            | (have _h := l2; go_at_call 7; refine (make_bad K3.out.1 hsy.1 (fun s hs => by have := hsy.2 s hs; omega) hM).mono ?_; rintro e w4 ⟨rfl, hb4⟩; have hw4 := hid (below_more hw3.out hb4))
            | (go_at_call 7; refine (make_bad H2.out.1 hsz.1 (fun s hs => by have := hsz.2 s hs; omega) hL).mono ?_; rintro e w3 ⟨rfl, hb3⟩; have hw3 := hid (below_more hb2 hb3); have K3 := hid (K2.out.below hb3); have l2 : True := trivial))
          go_ret
          exact ⟨rfl, hw4.out⟩
    · have hd2 : fewB M = false := decide_eq_false hg
      go_enter Try.func4, Try.ntmps4
      go_wp2_with (first
        | (have _h := l1; go_at_call 5; refine (few_any K.out).mono ?_; rintro e w1 ⟨rfl, rfl⟩; rw [hd2])
        | (go_at_call 5; refine (few_any H.out).mono ?_; rintro e w1 ⟨rfl, rfl⟩; rw [hd1]; have l1 : True := trivial)
        | (go_at_call 6; refine (alive_any _).mono ?_; rintro e w2 ⟨rfl, hb2⟩))
      go_ret
      exact ⟨rfl, hb2⟩
  · have hd1 : fewB L = false := decide_eq_false hf
    go_enter Try.func4, Try.ntmps4
    go_wp2_with (first
      | (go_at_call 5; refine (few_any H.out).mono ?_; rintro e w1 ⟨rfl, rfl⟩; rw [hd1])
      | (go_at_call 6; refine (alive_any _).mono ?_; rintro e w2 ⟨rfl, hb2⟩))
    go_ret
    exact ⟨rfl, hb2⟩

set_option linter.unusedVariables false
theorem dictNames_own : ownKnob Try.prog.godebug = none := by kernel_rfl

theorem dictNames_laidOut : laidOutB Try.prog = true := by kernel_rfl

set_option maxRecDepth 100000 in
theorem dictNames_lifted (os : Os) (started : os.Started) (H : Type) (enc : TypeId × Value → H) :
    ReturnsInHanded {} Try.checked os 4 .any (Rows.dictNamesSpec.pre6 enc Try.prog Try.f4 Rows.dictNamesRow.domain false) (Rows.dictNamesSpec.post enc Try.prog Try.f4 false true false false) := by
  refine returnsInHanded_of_change_sized (C := Try.checked) dictNames_own started (by kernel_rfl) Try.func4
    (ChangeSpec.witness6 (enc := enc) (C := Try.checked) false ⟨#[], #[.slice none 0 0, .slice none 0 0], []⟩ 8 (by kernel_rfl) (by kernel_rfl) (by kernel_rfl) (by kernel_rfl)) ?_
  intro W base args ds gs before hval0 hW hcnd hsz0 _
  have hsz : (DataW.weightsEach Try.prog (Try.f4.params.toList ++ Rows.dictNamesSpec.plain.varTypes Try.prog) (ds ++ gs)).all (· ≤ reachBytes) = true := hsz0
  have hval : ∀ (j : Nat) t v, Try.f4.params[j]? = some t → args[j]? = some v → Value.okWide Try.prog W .any base t v := hval0
  have hW' := hW
  obtain ⟨p, q, hA0, hV, rfl, hfz, hnd⟩ := hW
  have hA : DataW.TrodAll enc Try.prog W 0 (fun _ => true) true Try.f4.params.toList args.toList ds p := hA0
  rw [Try.params4] at hA hval hsz
  obtain ⟨v0, vs0, d0, ds0, p0, q0, hargs, rfl, rfl, h0, r0⟩ := trodAll_cons hA
  obtain ⟨v1, vs1, d1, ds1, p1, q1, rfl, rfl, rfl, h1, r1⟩ := trodAll_cons r0
  obtain ⟨rfl, rfl, rfl⟩ := trodAll_nil r1
  obtain rfl : args = #[v0, v1] := by cases args; simp_all
  obtain ⟨rfl, rfl⟩ := trodVars_none hV
  obtain ⟨a0, len0, cap0, rfl⟩ := okWide_slice Try.underlying22 (hval 0 22 v0 rfl rfl)
  have k0 := h0
  have lt0 : ∀ x ∈ p0, x.block < W.heap.size := by obtain ⟨m, hm⟩ := k0; exact DataW.trod_lt m _ _ _ hm
  obtain ⟨z0, w0⟩ := h0.elim (fun _ hf => open_list hf hsz 0 rfl rfl)
  obtain ⟨a1, len1, cap1, rfl⟩ := okWide_slice Try.underlying22 (hval 1 22 v1 rfl rfl)
  have k1 := h1
  have lt1 : ∀ x ∈ p1, x.block < W.heap.size := by obtain ⟨m, hm⟩ := k1; exact DataW.trod_lt m _ _ _ hm
  obtain ⟨z1, w1⟩ := h1.elim (fun _ hf => open_list hf hsz 1 rfl rfl)
  clear hA0 hval0
  refine (names_walk _ _ z0 z1 W w0 w1).mono fun e W' ⟨he, bel⟩ => ?_
  subst he
  exact ⟨_, rfl, _, _, _, [], _, [], hW', trodAll_mk1 (shut_bool Try.underlying4 _), (trodAll_cons_mk (Below.trod dictNames_laidOut (by kernel_rfl) (of_decide_eq_true (by kernel_rfl)) k0 bel lt0) (trodAll_cons_mk (Below.trod dictNames_laidOut (by kernel_rfl) (of_decide_eq_true (by kernel_rfl)) k1 bel lt1) trodAll_mk0)), rfl, bel.frame _, fun h => by cases h⟩

/-- THE STATEMENT. -/
theorem dictNames_holds : Rows.DictNamesSaid :=
  OpenClaim.holds_of_wide 4 Try.f4 rfl rfl rfl rfl rfl rfl rfl ⟨rfl, rfl, rfl, rfl, rfl⟩ rfl rfl rfl rfl rfl (by kernel_rfl) Try.func4 (by kernel_rfl)
    (of_decide_eq_true (by kernel_rfl)) (by unfold Func.isWrapper; first | (rw [if_pos (by decide +kernel)]; kernel_rfl) | (rw [if_neg (by decide +kernel)]; exact ⟨rfl, rfl⟩))
    (fun os started H enc _ => dictNames_lifted os started H enc)
#print axioms dictNames_holds
end Go.Proofs.Ytbeahodgkdbidab
