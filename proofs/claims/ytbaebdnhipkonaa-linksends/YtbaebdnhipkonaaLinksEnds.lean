/-
  LinksEnds: of the links of every dictionary, where one goes on is an end of the text, shorter, and by links alone one comes to the root; which phrase ends there, too, is a phrase, and shorter. For every list of texts.
-/
import Derived.Test.YtbaebdnhipkonaaAlive8
import Derived.Test.YtbaebdnhipkonaaEnds
import Derived.Test.YtbaebdnhipkonaaRefPhrases
import Derived.Test.YtbaebdnhipkonaaNodeCalls
import Derived.Deep.RegionHeld3
import Derived.ChangeOld
import Derived.SizedLaws
namespace Go.Proofs.Ytbaebdnhipkonaa
open Go.ChangeShapes Go.WideShapes Go.ChangeAt Go.RowKit

set_option maxRecDepth 20000 in
set_option maxHeartbeats 4000000 in
theorem ends_walk (v : Value) (L : List ByteArray) (w : World) (h : ListIn w v L) :
    Calls Try.prog 4 #[v] w fun e w' => e = .returned (.bool true) ∧ Below w.heap.size w w' := by
  have H := hid h
  by_cases hf : FewL L
  · have hd1 : fewB L = true := decide_eq_true hf
    have hsz := hf.sizes
    rcases fine_or_bad L with hL | ⟨cd, a0, hL⟩
    · have HF := hid hL
      clear h hL hsz hf
      go_enter Try.func4, Try.ntmps4
      go_wp2_with (first
        | (go_at_call 7; refine (few_any H.out).mono ?_; rintro e w1 ⟨rfl, rfl⟩; rw [hd1])
        | (go_at_call 8; refine (alive_any _).mono ?_; rintro e w2 ⟨rfl, hb2⟩; have H2 := hid (H.out.below hb2); have HB2 := hid hb2; clear hb2)
        | (go_at_call 9; refine (phrases_fine H2.out.1 HF.out).mono ?_; rintro e w3 ⟨rfl, rfl⟩)
        | (go_at_call 10; refine (makeL_fine H2.out.1 HF.out).mono ?_; rintro e w4 ⟨l, t, rfl, hx4, hb4⟩; have HX := hid hx4; have HB4 := hid (below_more HB2.out hb4); clear hx4 hb4)
        | (go_at_call 19; refine (trieL_in HX.out).mono ?_; rintro e w5 ⟨rfl, rfl⟩))
      obtain ⟨A, hA⟩ : ∃ A, A = nodesN (L.map nums) := ⟨_, rfl⟩
      obtain ⟨P, hP⟩ : ∃ P, P = L.map nums := ⟨_, rfl⟩
      have HXA : Hid (LinksAt w5 l t A P (wordOf P)) := by rw [hA, hP]; exact HX.out
      have HPA : Hid (∀ s ∈ P, s ∈ A) := fun s hs => by rw [hA]; rw [hP] at hs; exact nodesN_self _ _ hs
      have HSH : Hid (∀ x ∈ A, x.length ≤ 40) := fun x hx => by rw [hA] at hx; exact node_short HF.out x hx
      obtain ⟨B0, hT0⟩ := HXA.out.trie
      have hfew := hT0.few
      have HN := hid hT0.nodes
      clear HX H2 H HF HB2 hA hP hT0
      go_loopw [7] (fun vi wr => ∃ i : Nat, vi = .int .i64 i ∧ i ≤ A.length ∧ Hid (Below w5.heap.size w5 wr)) (fun vi _ => A.length - (intOf vi).toNat)
      case atStart => exact ⟨0, rfl, by omega, Below.refl _ _⟩
      case round =>
        obtain ⟨i, rfl, hi, hb⟩ := hrel
        obtain ⟨B, hT1⟩ := (HXA.out.later hb.out).trie
        have hT := hid hT1
        clear hT1
        by_cases hlt : i < A.length
        · have hd : decide ((i : Int) < (A.length : Int)) = true := decide_eq_true (by omega)
          obtain ⟨x, hx⟩ : ∃ x, x = txt A i := ⟨_, rfl⟩
          have hx40 : x.length ≤ 40 := by rw [hx]; exact txt_short HSH.out i
          obtain ⟨s, hs⟩ : ∃ s, s = bytesOf x := ⟨_, rfl⟩
          have hs40 : s.size ≤ 40 := by rw [hs, bytesOf_size]; exact hx40
          have HTX := hid (text_txt hT.out i hlt)
          rw [← hx, ← hs] at HTX
          have HXE := hid hx
          have HSE := hid hs
          clear hx hs
          go_wp2_with (first
            | (go_at_call 21; refine (len_trie hT.out).mono ?_; rintro e w6 ⟨rfl, rfl⟩)
            | (go_at_call 22; refine (HTX.out).mono ?_; rintro e w6 ⟨rfl, rfl⟩))
          go_loopw [9, 10] (fun vn vz wr2 => ∃ n z : Nat, vn = .int .i64 n ∧ vz = .int .i64 z ∧ z < A.length ∧ n + (txt A z).length ≤ 40 ∧ Hid (txt A z <:+ x) ∧ Hid (Below w5.heap.size w5 wr2)) (fun _ vz _ => (txt A (intOf vz).toNat).length)
          case atStart => exact ⟨0, i, rfl, rfl, hlt, by rw [← HXE.out]; omega, by rw [← HXE.out]; exact List.suffix_refl _, hb.out⟩
          case round =>
            obtain ⟨n, z, rfl, rfl, hz, hn, hsf, hb2⟩ := hrel
            have hX2 := hid (HXA.out.later hb2.out)
            by_cases h0 : z = 0
            · subst h0
              have hO := hid (out_in hX2.out i hlt)
              by_cases hU : RU A P i = 0
              · rw [hU] at hO
                go_wp2_with (first
                  | (go_at_call 15; refine (hO.out).mono ?_; rintro e w7 ⟨rfl, q7, rfl⟩))
                go_roundw
                case rel => exact ⟨i + 1, by go_num, by omega, hb2.out.trans (drewN_below _ _ _)⟩
                case measure => simp [intOf]; omega
              · obtain ⟨y, e1, e2, e3, e4, e5⟩ := RU_some HPA.out i hU
                obtain ⟨o, ho⟩ : ∃ o, o = RU A P i := ⟨_, rfl⟩
                rw [← ho] at hO e2 e3 hU
                rw [← HXE.out] at e5
                have hk : 0 ≤ wordOf P y := by unfold wordOf; rw [if_pos e4]; omega
                have HW : Hid (∀ W : World, (∃ B, TrieAt W B t A (wordOf P)) → Calls Try.prog 23 #[.pointer (some ⟨t, 0, none⟩), .int .i64 (o : Int)] W fun e w' => e = .returned (.int .i64 (wordOf P y)) ∧ w' = W) := fun W ⟨B, hW⟩ => by
                  have := word_txt hW o e2
                  rw [e3] at this
                  exact this
                have HD1 : Hid (∀ W : World, (∃ B, TrieAt W B t A (wordOf P)) → Calls Try.prog 24 #[.pointer (some ⟨t, 0, none⟩), .int .i64 (o : Int)] W fun e w' => e = .returned (.int .i64 (y.length : Int)) ∧ w' = W) := fun W ⟨B, hW⟩ => by
                  have := depth_txt hW o e2
                  rw [e3] at this
                  exact this
                have HD2 : Hid (∀ W : World, (∃ B, TrieAt W B t A (wordOf P)) → Calls Try.prog 24 #[.pointer (some ⟨t, 0, none⟩), .int .i64 (i : Int)] W fun e w' => e = .returned (.int .i64 (x.length : Int)) ∧ w' = W) := fun W ⟨B, hW⟩ => by
                  have := depth_txt hW i hlt
                  rw [← HXE.out] at this
                  exact this
                generalize wordOf P y = k at HW hk
                have g0 : ¬ ((o : Int) = 0) := by omega
                have g1 : decide (k < 0) = false := decide_eq_false (by omega)
                have g2 : decide ((x.length : Int) ≤ (y.length : Int)) = false := decide_eq_false (by omega)
                have g3 : decide (x.length ≤ y.length) = false := decide_eq_false (by omega)
                clear e1 e3 e4 ho
                go_wp2_with (first
                  | (go_at_call 15; refine (hO.out).mono ?_; rintro e w7 ⟨rfl, q7, hq7⟩; have HT7 : Hid (∃ B, TrieAt w7 B t A (wordOf P)) := (by rw [hq7]; exact (hX2.out.later (drewN_below _ _ _)).trie); have HB7 : Hid (Below w5.heap.size w5 w7) := (by rw [hq7]; exact hb2.out.trans (drewN_below _ _ _)); clear hq7)
                  | (go_at_call 23; refine (HW.out _ HT7.out).mono ?_; rintro e w8 ⟨rfl, rfl⟩)
                  | (go_at_call_of 24 (Value.int IntKind.i64 (o : Int)); refine (HD1.out _ HT7.out).mono ?_; rintro e w8 ⟨rfl, rfl⟩)
                  | (go_at_call_of 24 (Value.int IntKind.i64 (i : Int)); refine (HD2.out _ HT7.out).mono ?_; rintro e w8 ⟨rfl, rfl⟩))
                go_roundw
                case rel => exact ⟨i + 1, by go_num, by omega, HB7.out⟩
                case measure => simp [intOf]; omega
            · obtain ⟨f, hf0⟩ : ∃ f, f = RF A z := ⟨_, rfl⟩
              have hfA : f < A.length := by rw [hf0]; exact RF_lt HN.out z
              have hft : txt A f = failT A (txt A z) := by rw [hf0]; exact RF_txt HN.out z
              have hne : txt A z ≠ [] := fun e => h0 (txt_nil HN.out hz e)
              have hsh : (txt A f).length < (txt A z).length := by rw [hft]; exact failT_short A _ hne
              have hsu : txt A f <:+ x := by rw [hft]; exact (failT_suffix A _).trans hsf.out
              have HFL := hid (fail_in hX2.out z hz)
              rw [← hf0] at HFL
              have hle := hsu.length_le
              obtain ⟨y, hy⟩ : ∃ y, y = bytesOf (txt A f) := ⟨_, rfl⟩
              obtain ⟨u, hu⟩ : ∃ u, u = bytesOf (txt A z) := ⟨_, rfl⟩
              have hys : y.size = (txt A f).length := by rw [hy, bytesOf_size]
              have hus : u.size = (txt A z).length := by rw [hu, bytesOf_size]
              have hss : s.size = x.length := by rw [HSE.out, bytesOf_size]
              have hys1 : y.size ≤ s.size := by omega
              have hys2 : y.size < u.size := by omega
              have hn2 : n + u.size ≤ 40 := by omega
              have hsl : ∀ W : World, (Instr.slice 9 (.string s) (some (.int .i64 ((s.size : Int) - (y.size : Int)))) none none).run Try.prog W = .ok (.string y) W := fun W => by
                have := slice_last x (x.length - (txt A f).length) (by omega) W
                rw [suffix_drop hsu, ← hy, ← HSE.out] at this
                rw [← this, hss, hys, Int.ofNat_sub hle]
              have HT1 : Hid (∀ W : World, (∃ B, TrieAt W B t A (wordOf P)) → Calls Try.prog 22 #[.pointer (some ⟨t, 0, none⟩), .int .i64 (f : Int)] W fun e w' => e = .returned (.string y) ∧ w' = W) := fun W ⟨B, hW⟩ => by
                rw [hy]; exact text_txt hW f hfA
              have HT2 : Hid (∀ W : World, (∃ B, TrieAt W B t A (wordOf P)) → Calls Try.prog 22 #[.pointer (some ⟨t, 0, none⟩), .int .i64 (z : Int)] W fun e w' => e = .returned (.string u) ∧ w' = W) := fun W ⟨B, hW⟩ => by
                rw [hu]; exact text_txt hW z hz
              have g0 : ¬ ((z : Int) = 0) := by omega
              have g1 : decide ((50 : Int) < (n : Int)) = false := decide_eq_false (by omega)
              have g2 : decide ((u.size : Int) ≤ (y.size : Int)) = false := decide_eq_false (by omega)
              have g3 : decide (u.size ≤ y.size) = false := decide_eq_false (by omega)
              have HSU := hid hsu
              have HH := hid (And.intro hys (And.intro hus hsh))
              clear hft hf0 hsu hle hy hu hys hus hss hsh hne
              go_wp2_with (first
                | (go_at_call 14; refine (HFL.out).mono ?_; rintro e w7 ⟨rfl, q7, hq7⟩; have HT7 : Hid (∃ B, TrieAt w7 B t A (wordOf P)) := (by rw [hq7]; exact (hX2.out.later (drewN_below _ _ _)).trie); have HB7 : Hid (Below w5.heap.size w5 w7) := (by rw [hq7]; exact hb2.out.trans (drewN_below _ _ _)); clear hq7)
                | (go_at_call_of 22 (Value.int IntKind.i64 (f : Int)); refine (HT1.out _ HT7.out).mono ?_; rintro e w8 ⟨rfl, rfl⟩)
                | (go_at_call_of 22 (Value.int IntKind.i64 (z : Int)); refine (HT2.out _ HT7.out).mono ?_; rintro e w8 ⟨rfl, rfl⟩))
              go_roundw
              case rel => exact ⟨n + 1, f, by go_num, rfl, hfA, by have := HH.out; omega, HSU.out, HB7.out⟩
              case measure => have := HH.out.2.2; simp [intOf]; omega
        · obtain rfl : i = A.length := by omega
          have hd : decide ((A.length : Int) < (A.length : Int)) = false := decide_eq_false (by omega)
          go_wp2_with (go_at_call 21; refine (len_trie hT.out).mono ?_; rintro e w6 ⟨rfl, rfl⟩)
          go_ret
          exact ⟨rfl, below_more HB4.out hb.out⟩
    · go_enter Try.func4, Try.ntmps4
      have hc0 : ¬ cd = 0 := bad_code hL
      go_wp2_with (first
        | (go_at_call 7; refine (few_any H.out).mono ?_; rintro e w1 ⟨rfl, rfl⟩; rw [hd1])
        | (go_at_call 8; refine (alive_any _).mono ?_; rintro e w2 ⟨rfl, hb2⟩; have H2 := hid (H.out.below hb2))
        | (go_at_call 9; refine (phrases_bad H2.out.1 hsz.1 (fun s hs => by have := hsz.2 s hs; omega) hL).mono ?_; rintro e w3 ⟨rfl, rfl⟩))
      go_ret
      exact ⟨rfl, hb2⟩
  · have hd1 : fewB L = false := decide_eq_false hf
    go_enter Try.func4, Try.ntmps4
    go_wp2_with (first
      | (go_at_call 7; refine (few_any H.out).mono ?_; rintro e w1 ⟨rfl, rfl⟩; rw [hd1])
      | (go_at_call 8; refine (alive_any _).mono ?_; rintro e w2 ⟨rfl, hb2⟩))
    go_ret
    exact ⟨rfl, hb2⟩

set_option linter.unusedVariables false
theorem linksEnds_own : ownKnob Try.prog.godebug = none := by kernel_rfl

theorem linksEnds_laidOut : laidOutB Try.prog = true := by kernel_rfl

set_option maxRecDepth 100000 in
theorem linksEnds_lifted (os : Os) (started : os.Started) (H : Type) (enc : TypeId × Value → H) :
    ReturnsInHanded {} Try.checked os 4 .any (Rows.linksEndsSpec.pre6 enc Try.prog Try.f4 Rows.linksEndsRow.domain false) (Rows.linksEndsSpec.post enc Try.prog Try.f4 false true false false) := by
  refine returnsInHanded_of_change_sized (C := Try.checked) linksEnds_own started (by kernel_rfl) Try.func4
    (ChangeSpec.witness6 (enc := enc) (C := Try.checked) false ⟨#[], #[.slice none 0 0], []⟩ 8 (by kernel_rfl) (by kernel_rfl) (by kernel_rfl) (by kernel_rfl)) ?_
  intro W base args ds gs before hval0 hW hcnd hsz0 _
  have hsz : (DataW.weightsEach Try.prog (Try.f4.params.toList ++ Rows.linksEndsSpec.plain.varTypes Try.prog) (ds ++ gs)).all (· ≤ reachBytes) = true := hsz0
  have hval : ∀ (j : Nat) t v, Try.f4.params[j]? = some t → args[j]? = some v → Value.okWide Try.prog W .any base t v := hval0
  have hW' := hW
  obtain ⟨p, q, hA0, hV, rfl, hfz, hnd⟩ := hW
  have hA : DataW.TrodAll enc Try.prog W 0 (fun _ => true) true Try.f4.params.toList args.toList ds p := hA0
  rw [Try.params4] at hA hval hsz
  obtain ⟨v0, vs0, d0, ds0, p0, q0, hargs, rfl, rfl, h0, r0⟩ := trodAll_cons hA
  obtain ⟨rfl, rfl, rfl⟩ := trodAll_nil r0
  obtain rfl : args = #[v0] := by cases args; simp_all
  obtain ⟨rfl, rfl⟩ := trodVars_none hV
  obtain ⟨a0, len0, cap0, rfl⟩ := okWide_slice Try.underlying22 (hval 0 22 v0 rfl rfl)
  have k0 := h0
  have lt0 : ∀ x ∈ p0, x.block < W.heap.size := by obtain ⟨m, hm⟩ := k0; exact DataW.trod_lt m _ _ _ hm
  obtain ⟨z0, w0⟩ := h0.elim (fun _ hf => open_list hf hsz 0 rfl rfl)
  clear hA0 hval0
  refine (ends_walk _ z0 W w0).mono fun e W' ⟨he, bel⟩ => ?_
  subst he
  exact ⟨_, rfl, _, _, _, [], _, [], hW', trodAll_mk1 (shut_bool Try.underlying4 _), (trodAll_cons_mk (Below.trod linksEnds_laidOut (by kernel_rfl) (of_decide_eq_true (by kernel_rfl)) k0 bel lt0) trodAll_mk0), rfl, bel.frame _, fun h => by cases h⟩

/-- THE STATEMENT. -/
theorem linksEnds_holds : Rows.LinksEndsSaid :=
  OpenClaim.holds_of_wide 4 Try.f4 rfl rfl rfl rfl rfl rfl rfl ⟨rfl, rfl, rfl, rfl, rfl⟩ rfl rfl rfl rfl rfl (by kernel_rfl) Try.func4 (by kernel_rfl)
    (of_decide_eq_true (by kernel_rfl)) (by unfold Func.isWrapper; first | (rw [if_pos (by decide +kernel)]; kernel_rfl) | (rw [if_neg (by decide +kernel)]; exact ⟨rfl, rfl⟩))
    (fun os started H enc _ => linksEnds_lifted os started H enc)
#print axioms linksEnds_holds
end Go.Proofs.Ytbaebdnhipkonaa
