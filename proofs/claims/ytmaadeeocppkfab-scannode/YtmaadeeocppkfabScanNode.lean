/-
  ScanNode: where a scanner is, hangs on the last bytes alone. For every list of texts, every two bytes.
-/
import Derived.Test.YtmaadeeocppkfabScanMore
import Derived.ShutString
import Derived.ChangeOld
import Derived.SizedLaws
namespace Go.Proofs.Ytmaadeeocppkfab
open Go.ChangeShapes Go.WideShapes Go.ChangeAt Go.RowKit
open Go.ChangeMaps (open_string shut_string)

set_option maxRecDepth 20000 in
set_option maxHeartbeats 4000000 in
theorem node_walk (v : Value) (L : List ByteArray) (a1 b : ByteArray) (s1 : a1.size ≤ 140737488351232) (s2 : b.size ≤ 140737488351232) (w : World) (h : ListIn w v L) :
    Calls Try.prog 3 #[v, .string a1, .string b] w fun e w' => e = .returned (.bool true) ∧ Below w.heap.size w w' := by
  have H := hid h
  by_cases hf : FewL L
  · have hd1 : fewB L = true := decide_eq_true hf
    have hsz := hf.sizes
    have HSZ := hid hf.2
    by_cases hcond : a1.size ≤ 100 ∧ 40 ≤ b.size ∧ b.size ≤ 200
    · obtain ⟨hc1, hc2, hc3⟩ := hcond
      have hdc : decide ((100 : Int) < (a1.size : Int)) = false := decide_eq_false (by omega)
      have hdc2 : decide (100 < a1.size) = false := decide_eq_false (by omega)
      have hdd : decide ((b.size : Int) < 40) = false := decide_eq_false (by omega)
      have hdd2 : decide (b.size < 40) = false := decide_eq_false (by omega)
      have hde : decide ((200 : Int) < (b.size : Int)) = false := decide_eq_false (by omega)
      have hde2 : decide (200 < b.size) = false := decide_eq_false (by omega)
      rcases fine_or_bad L with hL | ⟨cd, a0, hL⟩
      · have HF := hid hL
        have hl100 := hL.1
        obtain ⟨⟨a, ca, rfl, ha⟩, _, _⟩ := h
        rw [strs_length] at *
        clear ha hL hsz hf
        obtain ⟨A, hA⟩ : ∃ A, A = nodesN (L.map nums) := ⟨_, rfl⟩
        obtain ⟨P, hP⟩ : ∃ P, P = L.map nums := ⟨_, rfl⟩
        obtain ⟨m, hm⟩ : ∃ m, m = A.idxOf (longT A (nums b)) := ⟨_, rfl⟩
        obtain ⟨ab, hab⟩ : ∃ ab, ab = a1 ++ b := ⟨_, rfl⟩
        have hadd : ∀ W : World, (Op.stringOp .add a1 b).run Try.prog W = .ok (.string ab) W := fun W => by rw [run_string_add_sum W _ _ (by omega), hab]
        have hsab : ab.size = a1.size + b.size := by rw [hab, ByteArray.size_append]
        have hsab2 : (ab.size : Int) = (a1.size : Int) + (b.size : Int) := by omega
        have HSH : Hid (∀ x ∈ A, x.length ≤ 40) := fun x hx => by rw [hA] at hx; exact node_short HF.out x hx
        have HAE := hid hA
        have HPE := hid hP
        have HM := hid hm
        have HAB := hid hab
        have HSAB := hid hsab
        clear hA hP hm hab hsab
        go_enter Try.func3, Try.ntmps3
        go_wp2_with (first
          | (go_at_call 4; refine (few_any H.out).mono ?_; rintro e w1 ⟨rfl, rfl⟩; rw [hd1])
          | (go_at_call 5; refine (alive_any _).mono ?_; rintro e w2 ⟨rfl, hb2⟩; have H2 := hid (H.out.below hb2); have HB2 := hid hb2; clear hb2)
          | (go_at_call 6; refine (phrases_fine H2.out.1 HF.out).mono ?_; rintro e w3 ⟨rfl, rfl⟩)
          | (go_at_call 7; refine (makeL_fine H2.out.1 HF.out).mono ?_; rintro e w4 ⟨l, t, rfl, hx4, hb4⟩; have hr4 := ready_of hx4 HF.out; have HR := hid hr4; have HX := hid hx4; have HL4 := hid (H2.out.1.below hb4); have HB4 := hid (below_more HB2.out hb4); clear hx4 hb4 hr4)
          | (have _h := laterN; go_at_call 8; refine (newS_in HX2.out HR2.out.nodes HS5.out.below).mono ?_; rintro e w6 ⟨q, rfl, hs6, hp6, hb6⟩; have HS6 := hid hs6; have HPQ := hid hp6; have HB6 := hid (below_more HB5.out hb6); have HSP := hid (HS5.out.later hb6); have HLT := hid HS5.out.lt; clear hs6 hp6 hb6)
          | (go_at_call 8; refine (newS_in (show LinksAt w4 l t A P (wordOf P) by rw [HAE.out, HPE.out]; exact HX.out) (by rw [HAE.out]; exact HR.out.nodes) (Below.refl _ _)).mono ?_; rintro e w5 ⟨p, rfl, hs5, hp5, hb5⟩; have laterN : True := trivial; have HS5 := hid hs5; have HX2 := hid hs5.links; have HR2 : Hid (Ready A P) := (by show Ready A P; rw [HAE.out, HPE.out]; exact HR.out); have HP5 := hid (Nat.le_trans HB4.out.size hp5); have HB5 := hid (below_more HB4.out hb5); clear hs5 hp5 hb5)
          | (go_at_call_of 9 (Value.pointer (some ⟨p, 0, none⟩)); refine (feed_in HSP.out HR2.out.father HR2.out.mem HR2.out.some HR2.out.short ab (by have := HSAB.out; omega) (by omega)).mono ?_; rintro e w7 ⟨v7, k7, rfl, ho7, hs7, hk7⟩; have HSP7 := hid hs7; have HSQ7 := hid (HS6.out.other hk7 (Nat.ne_of_gt (Nat.lt_of_lt_of_le HLT.out HPQ.out)) HSP.out.lo); have HB7 := hid (below_then HB6.out hk7 HP5.out); clear ho7 hs7 hk7)
          | (go_at_call_of 9 (Value.pointer (some ⟨q, 0, none⟩)); refine (feed_in HSQ7.out HR2.out.father HR2.out.mem HR2.out.some HR2.out.short b (by omega) (by omega)).mono ?_; rintro e w8 ⟨v8, k8, rfl, ho8, hs8, hk8⟩; have HSQ8 := hid hs8; have HSP8 := hid (HSP7.out.other hk8 (Nat.ne_of_lt (Nat.lt_of_lt_of_le HLT.out HPQ.out)) HSQ7.out.lo); have HB8 := hid (below_then HB7.out hk8 (Nat.le_trans HB5.out.size HPQ.out)); clear ho8 hs8 hk8)
          | (go_at_call_of 10 (Value.pointer (some ⟨p, 0, none⟩)); refine (nodeS_in HSP8.out).mono ?_; rintro e wE ⟨rfl, rfl⟩; rw [List.nil_append, HAB.out, nums_append, longT_last A (nodes_mem0 HR2.out.nodes) 40 HSH.out _ _ (by rw [nums_length]; omega), ← HM.out])
          | (go_at_call_of 10 (Value.pointer (some ⟨q, 0, none⟩)); refine (nodeS_in HSQ8.out).mono ?_; rintro e wE ⟨rfl, rfl⟩; rw [List.nil_append, ← HM.out])
          | (go_at_call_of 11 (Value.pointer (some ⟨p, 0, none⟩)); refine (atS_in HSP8.out).mono ?_; rintro e wE ⟨rfl, rfl⟩; rw [Nat.zero_add, hsab2])
          | (go_at_call_of 11 (Value.pointer (some ⟨q, 0, none⟩)); refine (atS_in HSQ8.out).mono ?_; rintro e wE ⟨rfl, rfl⟩; rw [Nat.zero_add]))
        go_ret
        exact ⟨by simp, HB8.out⟩
      · go_enter Try.func3, Try.ntmps3
        have hc0 : ¬ cd = 0 := bad_code hL
        go_wp2_with (first
          | (go_at_call 4; refine (few_any H.out).mono ?_; rintro e w1 ⟨rfl, rfl⟩; rw [hd1])
          | (go_at_call 5; refine (alive_any _).mono ?_; rintro e w2 ⟨rfl, hb2⟩; have H2 := hid (H.out.below hb2))
          | (go_at_call 6; refine (phrases_bad H2.out.1 hsz.1 (fun s hs => by have := hsz.2 s hs; omega) hL).mono ?_; rintro e w3 ⟨rfl, rfl⟩))
        go_ret
        exact ⟨rfl, hb2⟩
    · rcases (show 100 < a1.size ∨ (a1.size ≤ 100 ∧ b.size < 40) ∨ (a1.size ≤ 100 ∧ 40 ≤ b.size ∧ 200 < b.size) by omega) with h1 | ⟨h1, h2⟩ | ⟨h1, h2, h3⟩
      all_goals
        go_enter Try.func3, Try.ntmps3
        go_wp2_with (first
          | (go_at_call 4; refine (few_any H.out).mono ?_; rintro e w1 ⟨rfl, rfl⟩; rw [hd1])
          | (go_at_call 5; refine (alive_any _).mono ?_; rintro e w2 ⟨rfl, hb2⟩))
        go_ret
        exact ⟨rfl, hb2⟩
  · have hd1 : fewB L = false := decide_eq_false hf
    go_enter Try.func3, Try.ntmps3
    go_wp2_with (first
      | (go_at_call 4; refine (few_any H.out).mono ?_; rintro e w1 ⟨rfl, rfl⟩; rw [hd1])
      | (go_at_call 5; refine (alive_any _).mono ?_; rintro e w2 ⟨rfl, hb2⟩))
    go_ret
    exact ⟨rfl, hb2⟩

set_option linter.unusedVariables false
theorem scanNode_own : ownKnob Try.prog.godebug = none := by kernel_rfl

theorem scanNode_laidOut : laidOutB Try.prog = true := by kernel_rfl

set_option maxRecDepth 100000 in
theorem scanNode_lifted (os : Os) (started : os.Started) (H : Type) (enc : TypeId × Value → H) :
    ReturnsInHanded {} Try.checked os 3 .any (Rows.scanNodeSpec.pre6 enc Try.prog Try.f3 Rows.scanNodeRow.domain false) (Rows.scanNodeSpec.post enc Try.prog Try.f3 false true false false) := by
  refine returnsInHanded_of_change_sized (C := Try.checked) scanNode_own started (by kernel_rfl) Try.func3
    (ChangeSpec.witness6 (enc := enc) (C := Try.checked) false ⟨#[], #[.slice none 0 0, .string ByteArray.empty, .string ByteArray.empty], []⟩ 8 (by kernel_rfl) (by kernel_rfl) (by kernel_rfl) (by kernel_rfl)) ?_
  intro W base args ds gs before hval0 hW hcnd hsz0 _
  have hsz : (DataW.weightsEach Try.prog (Try.f3.params.toList ++ Rows.scanNodeSpec.plain.varTypes Try.prog) (ds ++ gs)).all (· ≤ reachBytes) = true := hsz0
  have hval : ∀ (j : Nat) t v, Try.f3.params[j]? = some t → args[j]? = some v → Value.okWide Try.prog W .any base t v := hval0
  have hW' := hW
  obtain ⟨p, q, hA0, hV, rfl, hfz, hnd⟩ := hW
  have hA : DataW.TrodAll enc Try.prog W 0 (fun _ => true) true Try.f3.params.toList args.toList ds p := hA0
  rw [Try.params3] at hA hval hsz
  obtain ⟨v0, vs0, d0, ds0, p0, q0, hargs, rfl, rfl, h0, r0⟩ := trodAll_cons hA
  obtain ⟨v1, vs1, d1, ds1, p1, q1, rfl, rfl, rfl, h1, r1⟩ := trodAll_cons r0
  obtain ⟨v2, vs2, d2, ds2, p2, q2, rfl, rfl, rfl, h2, r2⟩ := trodAll_cons r1
  obtain ⟨rfl, rfl, rfl⟩ := trodAll_nil r2
  obtain rfl : args = #[v0, v1, v2] := by cases args; simp_all
  obtain ⟨rfl, rfl⟩ := trodVars_none hV
  obtain ⟨a0, len0, cap0, rfl⟩ := okWide_slice Try.underlying22 (hval 0 22 v0 rfl rfl)
  have k0 := h0
  have lt0 : ∀ x ∈ p0, x.block < W.heap.size := by obtain ⟨m, hm⟩ := k0; exact DataW.trod_lt m _ _ _ hm
  obtain ⟨z0, w0⟩ := h0.elim (fun _ hf => open_list hf hsz 0 rfl rfl)
  obtain ⟨a1, rfl, rfl, rfl, w1⟩ := open_string Try.underlying9 (hval 1 9 v1 rfl rfl) h1
  obtain ⟨a2, rfl, rfl, rfl, w2⟩ := open_string Try.underlying9 (hval 2 9 v2 rfl rfl) h2
  clear hA0 hval0
  have s1 : a1.size ≤ 140737488351232 := by have h := sized_string hsz (j := 1) (t := 9) rfl rfl; rw [Array.length_toList] at h; exact h
  have s2 : a2.size ≤ 140737488351232 := by have h := sized_string hsz (j := 2) (t := 9) rfl rfl; rw [Array.length_toList] at h; exact h
  refine (node_walk _ z0 a1 a2 s1 s2 W w0).mono fun e W' ⟨he, bel⟩ => ?_
  subst he
  exact ⟨_, rfl, _, _, _, [], _, [], hW', trodAll_mk1 (shut_bool Try.underlying4 _), (trodAll_cons_mk (Below.trod scanNode_laidOut (by kernel_rfl) (of_decide_eq_true (by kernel_rfl)) k0 bel lt0) (trodAll_cons_mk (shut_string Try.underlying9 w1) (trodAll_cons_mk (shut_string Try.underlying9 w2) trodAll_mk0))), rfl, bel.frame _, fun h => by cases h⟩

/-- THE STATEMENT. -/
theorem scanNode_holds : Rows.ScanNodeSaid :=
  OpenClaim.holds_of_wide 3 Try.f3 rfl rfl rfl rfl rfl rfl rfl ⟨rfl, rfl, rfl, rfl, rfl⟩ rfl rfl rfl rfl rfl (by kernel_rfl) Try.func3 (by kernel_rfl)
    (of_decide_eq_true (by kernel_rfl)) (by unfold Func.isWrapper; first | (rw [if_pos (by decide +kernel)]; kernel_rfl) | (rw [if_neg (by decide +kernel)]; exact ⟨rfl, rfl⟩))
    (fun os started H enc _ => scanNode_lifted os started H enc)
#print axioms scanNode_holds
end Go.Proofs.Ytmaadeeocppkfab
