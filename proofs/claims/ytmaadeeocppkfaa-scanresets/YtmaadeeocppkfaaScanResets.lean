/-
  ScanResets: begun anew a scanner is as a new one. For every list of texts, every two bytes.
-/
import Derived.Test.YtmaadeeocppkfaaAlive9
import Derived.Test.YtmaadeeocppkfaaScanReset
import Derived.Test.YtmaadeeocppkfaaRefPhrases
import Derived.ShutString
import Derived.ChangeOld
import Derived.SizedLaws
namespace Go.Proofs.Ytmaadeeocppkfaa
open Go.ChangeShapes Go.WideShapes Go.ChangeAt Go.RowKit
open Go.ChangeMaps (open_string shut_string)

theorem ready_links {w : World} {l t : Nat} {L : List ByteArray} (h : LinksOf w l t L) : LinksAt w l t (nodesN (L.map nums)) (L.map nums) (wordOf (L.map nums)) := h

set_option maxRecDepth 20000 in
set_option maxHeartbeats 4000000 in
theorem resets_walk (v : Value) (L : List ByteArray) (a1 b : ByteArray) (s1 : a1.size ≤ 140737488351232) (s2 : b.size ≤ 140737488351232) (w : World) (h : ListIn w v L) :
    Calls Try.prog 6 #[v, .string a1, .string b] w fun e w' => e = .returned (.bool true) ∧ Below w.heap.size w w' := by
  have H := hid h
  by_cases hf : FewL L
  · have hd1 : fewB L = true := decide_eq_true hf
    have hsz := hf.sizes
    have HSZ := hid hf.2
    by_cases hcond : a1.size + b.size ≤ 200
    · have hdc : decide ((200 : Int) < (a1.size : Int) + (b.size : Int)) = false := decide_eq_false (by omega)
      have hdc2 : decide (200 < a1.size + b.size) = false := decide_eq_false (by omega)
      rcases fine_or_bad L with hL | ⟨cd, a0, hL⟩
      · have HF := hid hL
        have hl100 := hL.1
        obtain ⟨⟨a, ca, rfl, ha⟩, _, _⟩ := h
        rw [strs_length] at *
        clear ha hL hsz hf
        go_enter Try.func6, Try.ntmps6
        go_wp2_with (first
          | (go_at_call 8; refine (few_any H.out).mono ?_; rintro e w1 ⟨rfl, rfl⟩; rw [hd1])
          | (go_at_call 9; refine (alive_any _).mono ?_; rintro e w2 ⟨rfl, hb2⟩; have H2 := hid (H.out.below hb2); have HB2 := hid hb2; clear hb2)
          | (go_at_call 10; refine (phrases_fine H2.out.1 HF.out).mono ?_; rintro e w3 ⟨rfl, rfl⟩)
          | (go_at_call 11; refine (makeL_fine H2.out.1 HF.out).mono ?_; rintro e w4 ⟨l, t, rfl, hx4, hb4⟩; have hr4 := ready_of hx4 HF.out; have HR := hid hr4; have HX := hid hx4; have HL4 := hid (H2.out.1.below hb4); have HB4 := hid (below_more HB2.out hb4); clear hx4 hb4 hr4)
          | (go_at_call 15; refine (newS_in (ready_links HX.out) HR.out.nodes (Below.refl _ _)).mono ?_; rintro e w5 ⟨p, rfl, hs5, hp5, hb5⟩; have HS5 := hid hs5; have HP5 := hid (Nat.le_trans HB4.out.size hp5); have HB5 := hid (below_more HB4.out hb5); clear hs5 hp5 hb5)
          | (have _h := laterF; go_at_call 16; refine (feed_in HS7.out HR.out.father HR.out.mem HR.out.some HR.out.short b (by omega) (by omega)).mono ?_; rintro e w8 ⟨v8, k8, rfl, ho8, hs8, hk8⟩; have HO8 := hid (ownsRow_readsH ho8); have HS8 := hid hs8; have HB8 := hid (below_then HB7.out hk8 HP5.out); clear ho8 hs8 hk8)
          | (go_at_call 16; refine (feed_in HS5.out HR.out.father HR.out.mem HR.out.some HR.out.short a1 (by omega) (by omega)).mono ?_; rintro e w6 ⟨v6, k6, rfl, ho6, hs6, hk6⟩; have laterF : True := trivial; have HS6 := hid hs6; have HB6 := hid (below_then HB5.out hk6 HP5.out); clear ho6 hs6 hk6)
          | (go_at_call 20; refine (resetS_in HS6.out HR.out.nodes).mono ?_; rintro e w7 ⟨rfl, hs7, hk7⟩; have HS7 := hid hs7; have HB7 := hid (below_then HB6.out hk7 HP5.out); clear hs7 hk7)
          | (go_at_call 18; refine (allS_in (ready_links HX.out) HS8.out.below HR.out.father HR.out.mem HR.out.some HR.out.short b (by omega)).mono ?_; rintro e w9 ⟨v9, k9, rfl, ho9, hb9⟩; have HO9 := hid (ownsRow_readsH ho9); have HO89 := hid (HO8.out.below hb9); have HS9 := hid (HS8.out.later hb9); have HB9 := hid (below_more HB8.out hb9); clear ho9 hb9)
          | (go_at_call 17; refine (sameHits_any HO89.out HO9.out (by have := hitsT_few _ 40 HR.out.short (nums b) 0 []; rw [asHits_length]; rw [nums_length] at this; omega) (by have := hitsT_few _ 40 HR.out.short (nums b) 0 []; rw [asHits_length]; rw [nums_length] at this; omega)).mono ?_; rintro e w10 ⟨rfl, hb10⟩; have laterA : True := trivial; have HS10 := hid (HS9.out.later hb10); have HB10 := hid (below_more HB9.out hb10); clear hb10; rw [decide_eq_true rfl])
          | (have _h := laterA; go_at_call 19; refine (atS_in HS10.out).mono ?_; rintro e w11 ⟨rfl, rfl⟩)
          | (go_at_call 19; refine (atS_in HS7.out).mono ?_; rintro e w11 ⟨rfl, rfl⟩)
          | (go_at_call 21; refine (nodeS_in HS7.out).mono ?_; rintro e w12 ⟨rfl, rfl⟩; rw [show longT (nodesN (L.map nums)) [] = [] from rfl, idx_nil HR.out.nodes]))
        go_ret
        exact ⟨rfl, HB10.out⟩
      · go_enter Try.func6, Try.ntmps6
        have hc0 : ¬ cd = 0 := bad_code hL
        go_wp2_with (first
          | (go_at_call 8; refine (few_any H.out).mono ?_; rintro e w1 ⟨rfl, rfl⟩; rw [hd1])
          | (go_at_call 9; refine (alive_any _).mono ?_; rintro e w2 ⟨rfl, hb2⟩; have H2 := hid (H.out.below hb2))
          | (go_at_call 10; refine (phrases_bad H2.out.1 hsz.1 (fun s hs => by have := hsz.2 s hs; omega) hL).mono ?_; rintro e w3 ⟨rfl, rfl⟩))
        go_ret
        exact ⟨rfl, hb2⟩
    · have hdc : decide ((200 : Int) < (a1.size : Int) + (b.size : Int)) = true := decide_eq_true (by omega)
      have hdc2 : decide (200 < a1.size + b.size) = true := decide_eq_true (by omega)
      go_enter Try.func6, Try.ntmps6
      go_wp2_with (first
        | (go_at_call 8; refine (few_any H.out).mono ?_; rintro e w1 ⟨rfl, rfl⟩; rw [hd1])
        | (go_at_call 9; refine (alive_any _).mono ?_; rintro e w2 ⟨rfl, hb2⟩))
      go_ret
      exact ⟨rfl, hb2⟩
  · have hd1 : fewB L = false := decide_eq_false hf
    go_enter Try.func6, Try.ntmps6
    go_wp2_with (first
      | (go_at_call 8; refine (few_any H.out).mono ?_; rintro e w1 ⟨rfl, rfl⟩; rw [hd1])
      | (go_at_call 9; refine (alive_any _).mono ?_; rintro e w2 ⟨rfl, hb2⟩))
    go_ret
    exact ⟨rfl, hb2⟩

set_option linter.unusedVariables false
theorem scanResets_own : ownKnob Try.prog.godebug = none := by kernel_rfl

theorem scanResets_laidOut : laidOutB Try.prog = true := by kernel_rfl

set_option maxRecDepth 100000 in
theorem scanResets_lifted (os : Os) (started : os.Started) (H : Type) (enc : TypeId × Value → H) :
    ReturnsInHanded {} Try.checked os 6 .any (Rows.scanResetsSpec.pre6 enc Try.prog Try.f6 Rows.scanResetsRow.domain false) (Rows.scanResetsSpec.post enc Try.prog Try.f6 false true false false) := by
  refine returnsInHanded_of_change_sized (C := Try.checked) scanResets_own started (by kernel_rfl) Try.func6
    (ChangeSpec.witness6 (enc := enc) (C := Try.checked) false ⟨#[], #[.slice none 0 0, .string ByteArray.empty, .string ByteArray.empty], []⟩ 8 (by kernel_rfl) (by kernel_rfl) (by kernel_rfl) (by kernel_rfl)) ?_
  intro W base args ds gs before hval0 hW hcnd hsz0 _
  have hsz : (DataW.weightsEach Try.prog (Try.f6.params.toList ++ Rows.scanResetsSpec.plain.varTypes Try.prog) (ds ++ gs)).all (· ≤ reachBytes) = true := hsz0
  have hval : ∀ (j : Nat) t v, Try.f6.params[j]? = some t → args[j]? = some v → Value.okWide Try.prog W .any base t v := hval0
  have hW' := hW
  obtain ⟨p, q, hA0, hV, rfl, hfz, hnd⟩ := hW
  have hA : DataW.TrodAll enc Try.prog W 0 (fun _ => true) true Try.f6.params.toList args.toList ds p := hA0
  rw [Try.params6] at hA hval hsz
  obtain ⟨v0, vs0, d0, ds0, p0, q0, hargs, rfl, rfl, h0, r0⟩ := trodAll_cons hA
  obtain ⟨v1, vs1, d1, ds1, p1, q1, rfl, rfl, rfl, h1, r1⟩ := trodAll_cons r0
  obtain ⟨v2, vs2, d2, ds2, p2, q2, rfl, rfl, rfl, h2, r2⟩ := trodAll_cons r1
  obtain ⟨rfl, rfl, rfl⟩ := trodAll_nil r2
  obtain rfl : args = #[v0, v1, v2] := by cases args; simp_all
  obtain ⟨rfl, rfl⟩ := trodVars_none hV
  obtain ⟨a0, len0, cap0, rfl⟩ := okWide_slice Try.underlying22 (hval 0 22 v0 rfl rfl)
  have k0 := h0
  have lt0 : ∀ x ∈ p0, x.block < W.heap.size := by obtain ⟨m, hm⟩ := k0; exact DataW.trod_lt m _ _ _ hm
  obtain ⟨z0, w0⟩ := h0.elim (fun _ hf => open_list hf hsz 0 rfl rfl)
  obtain ⟨a1, rfl, rfl, rfl, w1⟩ := open_string Try.underlying9 (hval 1 9 v1 rfl rfl) h1
  obtain ⟨a2, rfl, rfl, rfl, w2⟩ := open_string Try.underlying9 (hval 2 9 v2 rfl rfl) h2
  clear hA0 hval0
  have s1 : a1.size ≤ 140737488351232 := by have h := sized_string hsz (j := 1) (t := 9) rfl rfl; rw [Array.length_toList] at h; exact h
  have s2 : a2.size ≤ 140737488351232 := by have h := sized_string hsz (j := 2) (t := 9) rfl rfl; rw [Array.length_toList] at h; exact h
  refine (resets_walk _ z0 a1 a2 s1 s2 W w0).mono fun e W' ⟨he, bel⟩ => ?_
  subst he
  exact ⟨_, rfl, _, _, _, [], _, [], hW', trodAll_mk1 (shut_bool Try.underlying4 _), (trodAll_cons_mk (Below.trod scanResets_laidOut (by kernel_rfl) (of_decide_eq_true (by kernel_rfl)) k0 bel lt0) (trodAll_cons_mk (shut_string Try.underlying9 w1) (trodAll_cons_mk (shut_string Try.underlying9 w2) trodAll_mk0))), rfl, bel.frame _, fun h => by cases h⟩

/-- THE STATEMENT. -/
theorem scanResets_holds : Rows.ScanResetsSaid :=
  OpenClaim.holds_of_wide 6 Try.f6 rfl rfl rfl rfl rfl rfl rfl ⟨rfl, rfl, rfl, rfl, rfl⟩ rfl rfl rfl rfl rfl (by kernel_rfl) Try.func6 (by kernel_rfl)
    (of_decide_eq_true (by kernel_rfl)) (by unfold Func.isWrapper; first | (rw [if_pos (by decide +kernel)]; kernel_rfl) | (rw [if_neg (by decide +kernel)]; exact ⟨rfl, rfl⟩))
    (fun os started H enc _ => scanResets_lifted os started H enc)
#print axioms scanResets_holds
end Go.Proofs.Ytmaadeeocppkfaa
