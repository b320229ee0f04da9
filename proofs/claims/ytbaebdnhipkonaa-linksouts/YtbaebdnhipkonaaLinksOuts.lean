/-
  LinksOuts: of the links of every dictionary, by where phrases end, too, one comes from each node to all phrases that are ends of its text, the longest first. For every list of texts.
-/
import Derived.Test.YtbaebdnhipkonaaAlive8
import Derived.Test.YtbaebdnhipkonaaEnds
import Derived.Test.YtbaebdnhipkonaaRefPhrases
import Derived.Test.YtbaebdnhipkonaaFindWord
import Derived.Test.YtbaebdnhipkonaaNodeCalls
import Derived.Test.YtbaebdnhipkonaaOutMath
import Derived.Deep.RegionHeld3
import Derived.ChangeOld
import Derived.SizedLaws
namespace Go.Proofs.Ytbaebdnhipkonaa
open Go.ChangeShapes Go.WideShapes Go.ChangeAt Go.RowKit

set_option maxRecDepth 20000 in
set_option maxHeartbeats 4000000 in
theorem outs_walk (v : Value) (L : List ByteArray) (w : World) (h : ListIn w v L) :
    Calls Try.prog 6 #[v] w fun e w' => e = .returned (.bool true) ∧ Below w.heap.size w w' := by
  have H := hid h
  by_cases hf : FewL L
  · have hd1 : fewB L = true := decide_eq_true hf
    have hsz := hf.sizes
    rcases fine_or_bad L with hL | ⟨cd, a0, hL⟩
    · have HF := hid hL
      have hl100 := hL.1
      obtain ⟨⟨a, ca, rfl, ha⟩, _, _⟩ := h
      rw [strs_length] at *
      clear ha hL hsz hf
      go_enter Try.func6, Try.ntmps6
      go_wp2_with (first
        | (go_at_call 7; refine (few_any H.out).mono ?_; rintro e w1 ⟨rfl, rfl⟩; rw [hd1])
        | (go_at_call 8; refine (alive_any _).mono ?_; rintro e w2 ⟨rfl, hb2⟩; have H2 := hid (H.out.below hb2); have HB2 := hid hb2; clear hb2)
        | (go_at_call 9; refine (phrases_fine H2.out.1 HF.out).mono ?_; rintro e w3 ⟨rfl, rfl⟩)
        | (go_at_call 10; refine (makeL_fine H2.out.1 HF.out).mono ?_; rintro e w4 ⟨l, t, rfl, hx4, hb4⟩; have HX := hid hx4; have HL4 := hid (H2.out.1.below hb4); have HB4 := hid (below_more HB2.out hb4); clear hx4 hb4)
        | (go_at_call 19; refine (trieL_in HX.out).mono ?_; rintro e w5 ⟨rfl, rfl⟩))
      obtain ⟨A, hA⟩ : ∃ A, A = nodesN (L.map nums) := ⟨_, rfl⟩
      obtain ⟨P, hP⟩ : ∃ P, P = L.map nums := ⟨_, rfl⟩
      have HXA : Hid (LinksAt w5 l t A P (wordOf P)) := by rw [hA, hP]; exact HX.out
      have HPA : Hid (∀ s ∈ P, s ∈ A) := fun s hs => by rw [hA]; rw [hP] at hs; exact nodesN_self _ _ hs
      have HSH : Hid (∀ x ∈ A, x.length ≤ 40) := fun x hx => by rw [hA] at hx; exact node_short HF.out x hx
      have HP0 : Hid ([] ∉ P) := by rw [hP]; exact phrase_some HF.out
      obtain ⟨B0, hT0⟩ := HXA.out.trie
      have hfew := hT0.few
      have HN := hid hT0.nodes
      have HBY := hid hT0.bytes
      have HPE := hid hP
      clear HX H2 H HF HB2 hA hP hT0
      go_loopw [7] (fun vi wr => ∃ i : Nat, vi = .int .i64 i ∧ i ≤ A.length ∧ Hid (Below w5.heap.size w5 wr)) (fun vi _ => A.length - (intOf vi).toNat)
      case atStart => exact ⟨0, rfl, by omega, Below.refl _ _⟩
      case round =>
        obtain ⟨i, rfl, hi, hb⟩ := hrel
        obtain ⟨B, hT1⟩ := (HXA.out.later hb.out).trie
        have hT := hid hT1
        clear hT1
        by_cases hlt : i < A.length
        · have hd : decide ((i : Int) < (A.length : Int)) = true := decide_eq_true (by omega)
          obtain ⟨x, hx⟩ : ∃ x, x = txt A i := ⟨_, rfl⟩
          have hx40 : x.length ≤ 40 := by rw [hx]; exact txt_short HSH.out i
          have HXB : Hid (∀ z ∈ x, z < 256) := by rw [hx]; exact HBY.out _ (txt_mem hlt)
          obtain ⟨s, hs⟩ : ∃ s, s = bytesOf x := ⟨_, rfl⟩
          have hss : Hid (s.size = x.length) := by show _ = _; rw [hs, bytesOf_size]
          have hs40 : s.size ≤ 40 := by rw [hss.out]; exact hx40
          have HTX := hid (text_txt hT.out i hlt)
          rw [← hx, ← hs] at HTX
          have HXE := hid hx
          have HSE := hid hs
          have HOU := hid (out_in (HXA.out.later hb.out) i hlt)
          clear hx hs
          go_wp2_with (first
            | (go_at_call 21; refine (len_trie hT.out).mono ?_; rintro e w6 ⟨rfl, rfl⟩)
            | (go_at_call 22; refine (HTX.out).mono ?_; rintro e w6 ⟨rfl, rfl⟩)
            | (go_at_call 15; refine (HOU.out).mono ?_; rintro e w7 ⟨rfl, q7, hq7⟩; have HB7 : Hid (Below w5.heap.size w5 w7) := (by rw [hq7]; exact hb.out.trans (drewN_below _ _ _)); clear hq7))
          go_loopw [9, 10] (fun vz vn wr2 => ∃ z M : Nat, vz = .int .i64 z ∧ vn = .int .i64 ((M : Int) - 1) ∧ M ≤ s.size ∧ Hid (z = idx0 A (outT P (x.drop (x.length - M)))) ∧ Hid (Below w5.heap.size w5 wr2)) (fun _ vn _ => (intOf vn).toNat)
          case atStart => exact ⟨_, s.size, rfl, rfl, Nat.le_refl _, by rw [hss.out, Nat.sub_self, List.drop_zero, HXE.out]; rfl, HB7.out⟩
          case round =>
            obtain ⟨z, M, rfl, rfl, hM, hz, hb2⟩ := hrel
            by_cases h1 : M ≤ 1
            · have hd3 : decide ((1 : Int) ≤ (M : Int) - 1) = false := decide_eq_false (by omega)
              have hz0 : z = 0 := by rw [hz.out, outT_one P HP0.out _ (by rw [List.length_drop]; have := hss.out; omega)]; rfl
              subst hz0
              go_wp2
              go_roundw
              case rel => exact ⟨i + 1, by go_num, by omega, hb2.out⟩
              case measure => simp [intOf]; omega
            · obtain ⟨K, rfl⟩ : ∃ K, M = K + 1 := ⟨M - 1, by omega⟩
              have e1 : (((K + 1 : Nat) : Int) - 1) = (K : Int) := by omega
              rw [e1]
              have hX2 := hid (HXA.out.later hb2.out)
              have hM2 : K + 1 ≤ x.length := by rw [← hss.out]; exact hM
              obtain ⟨y, hy⟩ : ∃ y, y = x.drop (x.length - K) := ⟨_, rfl⟩
              have hzz := hz.out
              rw [outT_drop P x K hM2, ← hy] at hzz
              have hyl : y.length = K := by rw [hy, List.length_drop]; omega
              have hyb : ∀ u ∈ y, u < 256 := fun u hu => HXB.out u (by rw [hy] at hu; exact List.mem_of_mem_drop hu)
              have hsl : ∀ W : World, (Instr.slice 9 (.string s) (some (.int .i64 ((s.size : Int) - (K : Int)))) none none).run Try.prog W = .ok (.string (bytesOf y)) W := fun W => by
                have := slice_last x (x.length - K) (by omega) W
                rw [← hy, ← HSE.out] at this
                rw [← this, hss.out, Int.ofNat_sub (by omega)]
              have hFd := find_word (s := bytesOf y) (HL4.out.below hb2.out) (by omega)
              rw [nums_bytesOf y hyb, ← HPE.out] at hFd
              have hd3 : decide ((1 : Int) ≤ (K : Int)) = true := decide_eq_true (by omega)
              have HYE := hid hy
              clear hy
              by_cases hm : y ∈ P
              · rw [if_pos hm] at hzz
                have hyA := HPA.out y hm
                have hzA : z < A.length := by rw [hzz]; exact idx_lt hyA
                have hzt : txt A z = y := by rw [hzz]; exact txt_idx hyA
                have hz0 : ¬ z = 0 := fun e => by
                  have h2 := txt_zero HN.out
                  rw [← e, hzt] at h2
                  rw [h2] at hyl
                  simp at hyl
                  omega
                obtain ⟨k, hk⟩ : ∃ k, k = P.idxOf y := ⟨_, rfl⟩
                rw [wordOf, if_pos hm, ← hk] at hFd
                have hkP : k < P.length := by rw [hk]; exact List.idxOf_lt_length_of_mem hm
                have hkL : k < L.length := by rw [HPE.out, List.length_map] at hkP; exact hkP
                have hLk : L[k]'hkL = bytesOf y := by
                  have h2 : P[k]'hkP = y := by simp only [hk]; exact List.getElem_idxOf (List.idxOf_lt_length_of_mem hm)
                  have h3 : P[k]'hkP = nums (L[k]'hkL) := by simp only [HPE.out, List.getElem_map]
                  rw [← h2, h3, bytesOf_nums]
                have HW : Hid (∀ W : World, (∃ B, TrieAt W B t A (wordOf P)) → Calls Try.prog 23 #[.pointer (some ⟨t, 0, none⟩), .int .i64 (z : Int)] W fun e w' => e = .returned (.int .i64 (k : Int)) ∧ w' = W) := fun W ⟨B, hW⟩ => by
                  have := word_txt hW z hzA
                  rw [hzt, wordOf, if_pos hm, ← hk] at this
                  exact this
                have HT : Hid (∀ W : World, (∃ B, TrieAt W B t A (wordOf P)) → Calls Try.prog 22 #[.pointer (some ⟨t, 0, none⟩), .int .i64 (z : Int)] W fun e w' => e = .returned (.string (bytesOf y)) ∧ w' = W) := fun W ⟨B, hW⟩ => by
                  have := text_txt hW z hzA
                  rw [hzt] at this
                  exact this
                have HTW := hid hX2.out.trie
                have hOz := fun (W : World) (hW : LinksAt W l t A P (wordOf P)) => out_in hW z hzA
                have HU : Hid (RU A P z = idx0 A (outT P (x.drop (x.length - K)))) := by show _ = _; unfold RU; rw [hzt, HYE.out]
                have HOz := hid hOz
                obtain ⟨a2, c2, e2, hR2⟩ := HL4.out.below hb2.out
                rw [strs_length] at e2 hR2
                injection e2 with e3 e4 e5
                subst e3
                subst e5
                rcases hR2 with h0 | ⟨gb, o, rfl, hgb, hcell⟩
                · omega
                have hcb : wr.cell? ⟨gb, o + k, none⟩ = some (.string (bytesOf y)) := by rw [hcell k hkL, strs_at L k hkL, hLk]
                have hx' : (decide ((0 : Int) ≤ (k : Int) ∧ (k : Int) < (L.length : Int))) = true := decide_eq_true ⟨by omega, by omega⟩
                have g0 : ¬ ((z : Int) = 0) := by omega
                have g1 : decide ((k : Int) < 0) = false := decide_eq_false (by omega)
                have HFd := hid hFd
                generalize hbt : bytesOf y = yt at *
                clear hFd hzz e1 hcell hOz hLk hzt hk hyb hyl hbt
                go_wp2_with (first
                  | (go_at_call 13; refine (HFd.out).mono ?_; rintro e w8 ⟨rfl, rfl⟩))
                go_quiet (first
                  | (go_at_call 23; exact Calls.quiet_of_same (HW.out _ (hX2.out.later (drewN_below _ _ _)).trie))
                  | (go_at_call 22; exact Calls.quiet_of_same (HT.out _ (hX2.out.later (drewN_below _ _ _)).trie)))
                go_wp2_with (go_at_call 15; refine (HOz.out _ (hX2.out.later (drewN_below _ _ _))).mono ?_; rintro e w9 ⟨rfl, q9, hq9⟩; have HB9 : Hid (Below w5.heap.size w5 w9) := (by rw [hq9]; exact hb2.out.trans ((drewN_below _ _ _).trans (drewN_below _ _ _))); clear hq9)
                go_roundw
                case rel => exact ⟨_, K, rfl, by go_num, by omega, HU.out, HB9.out⟩
                case measure => simp [intOf]; omega
              · rw [if_neg hm] at hzz
                rw [wordOf, if_neg hm] at hFd
                have HFd := hid hFd
                have HZZ := hid hzz
                clear hFd hzz e1
                go_wp2_with (first
                  | (go_at_call 13; refine (HFd.out).mono ?_; rintro e w8 ⟨rfl, rfl⟩))
                go_roundw
                case rel => exact ⟨z, K, rfl, by go_num, by omega, by rw [← HYE.out]; exact HZZ.out, hb2.out⟩
                case measure => simp [intOf]; omega
        · obtain rfl : i = A.length := by omega
          have hd : decide ((A.length : Int) < (A.length : Int)) = false := decide_eq_false (by omega)
          go_wp2_with (go_at_call 21; refine (len_trie hT.out).mono ?_; rintro e w6 ⟨rfl, rfl⟩)
          go_ret
          exact ⟨rfl, below_more HB4.out hb.out⟩
    · go_enter Try.func6, Try.ntmps6
      have hc0 : ¬ cd = 0 := bad_code hL
      go_wp2_with (first
        | (go_at_call 7; refine (few_any H.out).mono ?_; rintro e w1 ⟨rfl, rfl⟩; rw [hd1])
        | (go_at_call 8; refine (alive_any _).mono ?_; rintro e w2 ⟨rfl, hb2⟩; have H2 := hid (H.out.below hb2))
        | (go_at_call 9; refine (phrases_bad H2.out.1 hsz.1 (fun s hs => by have := hsz.2 s hs; omega) hL).mono ?_; rintro e w3 ⟨rfl, rfl⟩))
      go_ret
      exact ⟨rfl, hb2⟩
  · have hd1 : fewB L = false := decide_eq_false hf
    go_enter Try.func6, Try.ntmps6
    go_wp2_with (first
      | (go_at_call 7; refine (few_any H.out).mono ?_; rintro e w1 ⟨rfl, rfl⟩; rw [hd1])
      | (go_at_call 8; refine (alive_any _).mono ?_; rintro e w2 ⟨rfl, hb2⟩))
    go_ret
    exact ⟨rfl, hb2⟩

set_option linter.unusedVariables false
theorem linksOuts_own : ownKnob Try.prog.godebug = none := by kernel_rfl

theorem linksOuts_laidOut : laidOutB Try.prog = true := by kernel_rfl

set_option maxRecDepth 100000 in
theorem linksOuts_lifted (os : Os) (started : os.Started) (H : Type) (enc : TypeId × Value → H) :
    ReturnsInHanded {} Try.checked os 6 .any (Rows.linksOutsSpec.pre6 enc Try.prog Try.f6 Rows.linksOutsRow.domain false) (Rows.linksOutsSpec.post enc Try.prog Try.f6 false true false false) := by
  refine returnsInHanded_of_change_sized (C := Try.checked) linksOuts_own started (by kernel_rfl) Try.func6
    (ChangeSpec.witness6 (enc := enc) (C := Try.checked) false ⟨#[], #[.slice none 0 0], []⟩ 8 (by kernel_rfl) (by kernel_rfl) (by kernel_rfl) (by kernel_rfl)) ?_
  intro W base args ds gs before hval0 hW hcnd hsz0 _
  have hsz : (DataW.weightsEach Try.prog (Try.f6.params.toList ++ Rows.linksOutsSpec.plain.varTypes Try.prog) (ds ++ gs)).all (· ≤ reachBytes) = true := hsz0
  have hval : ∀ (j : Nat) t v, Try.f6.params[j]? = some t → args[j]? = some v → Value.okWide Try.prog W .any base t v := hval0
  have hW' := hW
  obtain ⟨p, q, hA0, hV, rfl, hfz, hnd⟩ := hW
  have hA : DataW.TrodAll enc Try.prog W 0 (fun _ => true) true Try.f6.params.toList args.toList ds p := hA0
  rw [Try.params6] at hA hval hsz
  obtain ⟨v0, vs0, d0, ds0, p0, q0, hargs, rfl, rfl, h0, r0⟩ := trodAll_cons hA
  obtain ⟨rfl, rfl, rfl⟩ := trodAll_nil r0
  obtain rfl : args = #[v0] := by cases args; simp_all
  obtain ⟨rfl, rfl⟩ := trodVars_none hV
  obtain ⟨a0, len0, cap0, rfl⟩ := okWide_slice Try.underlying22 (hval 0 22 v0 rfl rfl)
  have k0 := h0
  have lt0 : ∀ x ∈ p0, x.block < W.heap.size := by obtain ⟨m, hm⟩ := k0; exact DataW.trod_lt m _ _ _ hm
  obtain ⟨z0, w0⟩ := h0.elim (fun _ hf => open_list hf hsz 0 rfl rfl)
  clear hA0 hval0
  refine (outs_walk _ z0 W w0).mono fun e W' ⟨he, bel⟩ => ?_
  subst he
  exact ⟨_, rfl, _, _, _, [], _, [], hW', trodAll_mk1 (shut_bool Try.underlying4 _), (trodAll_cons_mk (Below.trod linksOuts_laidOut (by kernel_rfl) (of_decide_eq_true (by kernel_rfl)) k0 bel lt0) trodAll_mk0), rfl, bel.frame _, fun h => by cases h⟩

/-- THE STATEMENT. -/
theorem linksOuts_holds : Rows.LinksOutsSaid :=
  OpenClaim.holds_of_wide 6 Try.f6 rfl rfl rfl rfl rfl rfl rfl ⟨rfl, rfl, rfl, rfl, rfl⟩ rfl rfl rfl rfl rfl (by kernel_rfl) Try.func6 (by kernel_rfl)
    (of_decide_eq_true (by kernel_rfl)) (by unfold Func.isWrapper; first | (rw [if_pos (by decide +kernel)]; kernel_rfl) | (rw [if_neg (by decide +kernel)]; exact ⟨rfl, rfl⟩))
    (fun os started H enc _ => linksOuts_lifted os started H enc)
#print axioms linksOuts_holds
end Go.Proofs.Ytbaebdnhipkonaa
