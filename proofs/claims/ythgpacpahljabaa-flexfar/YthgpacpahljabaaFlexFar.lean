/-
  FlexFar: two tokens of flex come no less far than two of greedy's, and its first takes no more. For every list of texts, every bytes.
  No condition: whatever the input, in whatever memory; the arguments read as before.
-/
import Derived.Test.YthgpacpahljabaaAlive14
import Derived.ShutString
import Derived.ChangeOld
import Derived.SizedLaws
namespace Go.Proofs.Ythgpacpahljabaa
open Go.ChangeShapes Go.WideShapes Go.ChangeAt Go.RowKit
open Go.ChangeMaps (open_string shut_string)

set_option maxRecDepth 20000 in
set_option maxHeartbeats 8000000 in
theorem far_walk (v : Value) (L : List ByteArray) (b : ByteArray) (w : World) (h : ListIn w v L) :
    Calls Try.prog 7 #[v, .string b] w fun e w' => e = .returned (.bool true) ∧ Below w.heap.size w w' := by
  have H := hid h
  clear h
  by_cases hfits : Fits L (b)
  · obtain ⟨_, h400, hF⟩ := id hfits
    have HF := hid hF
    have hl100 := hF.1
    have HFits := hid hfits
    clear hF hfits
    by_cases hpos : 0 < b.size
    · have hes : (b.toList == []) = false := text_some (by omega)
      have hes2 : b.toList.isEmpty = false := by have h := hes; cases e : b.toList with | nil => rw [e] at h; simp at h | cons c l => rfl
      have hp := xN_pos HF.out (drop_some hpos)
      have hp2 := gN_pos HF.out (drop_some hpos)
      have hle : xN L ((nums b).drop 0) ≤ gN L ((nums b).drop 0) := secondT_first _ 40 (phrases_short HF.out) _ (drop_some hpos)
      have hbest := (xN_best HF.out ((nums b).drop 0) _ (firstT_lens _ 40 _)).1
      rw [show firstT (L.map nums) 40 ((nums b).drop 0) = gN L ((nums b).drop 0) from rfl] at hbest
      rw [List.length_drop, nums_length] at hp hp2
      have hq1 := (rN_le HF.out ((nums b).drop 0) (xN L ((nums b).drop 0)) (by rw [List.length_drop, nums_length]; omega)).1
      rw [List.length_drop, nums_length] at hq1
      obtain ⟨n, hn⟩ : ∃ n, n = xN L ((nums b).drop 0) := ⟨_, rfl⟩
      obtain ⟨k, hk⟩ : ∃ k, k = gN L ((nums b).drop 0) := ⟨_, rfl⟩
      rw [← hn] at hp hle hbest hq1
      rw [← hk] at hp2 hle hbest
      obtain ⟨f1, hf1⟩ : ∃ f, f = 0 + rN L ((nums b).drop 0) n := ⟨_, rfl⟩
      obtain ⟨f2, hf2⟩ : ∃ f, f = 0 + rN L ((nums b).drop 0) k := ⟨_, rfl⟩
      have HN := hid hn
      have HK := hid hk
      have HR1 := hid hf1
      have HR2 := hid hf2
      have hn1 := hp.1
      have hk1 := hp2.1
      have hnb : n ≤ b.size := by omega
      have hkb : k ≤ b.size := by omega
      have d1 : decide ((1 : Int) ≤ (n : Int)) = true := decide_eq_true (by omega)
      have d2 : decide ((1 : Int) ≤ (k : Int)) = true := decide_eq_true (by omega)
      have d3 : decide ((f2 : Int) ≤ (f1 : Int)) = true := decide_eq_true (by omega)
      have d4 : decide ((n : Int) ≤ (k : Int)) = true := decide_eq_true (by omega)
      have d12 : decide (1 ≤ n) = true := decide_eq_true (by omega)
      have d22 : decide (1 ≤ k) = true := decide_eq_true (by omega)
      have d32 : decide (f2 ≤ f1) = true := decide_eq_true (by omega)
      have d42 : decide (n ≤ k) = true := decide_eq_true (by omega)
      have hf11 : f1 ≤ 1000 := by omega
      have hf22 : f2 ≤ 1000 := by omega
      clear hn hk hf1 hf2 hp hp2 hle hbest hq1
      go_enter Try.func7, Try.ntmps7
      go_wp2_with (first
        | (go_at_call 8; refine (dict_fits H.out HFits.out).mono ?_; rintro e w1 ⟨p, rfl, hd1, hb1⟩; have HD1 := hid hd1; have H1 := hid (H.out.below hb1); have HB1 := hid hb1; clear hd1 hb1)
        | (go_at_call 9; refine (alive_14 _).mono ?_; rintro e w2 ⟨rfl, hb2⟩; have H2 := hid (H1.out.below hb2); have HD2 := hid (HD1.out.below hb2); have HB2 := hid (HB1.out.trans (hb2.mono HB1.out.size)); clear hb2)
        | (go_at_call 12; refine (nextX_any HD2.out HF.out b (by omega) 0 hpos).mono ?_; rintro e w3 ⟨rfl, q3, hq3⟩; rw [← HN.out]; have hb3 : Below w2.heap.size w2 w3 := (by rw [hq3]; exact drewN_below _ _ _); have HD3 := hid (HD2.out.below hb3); have HB3 := hid (HB2.out.trans (hb3.mono HB2.out.size)); clear hb3 hq3)
        | (go_at_call 23; refine (next_any HD3.out HF.out b (by omega) 0 hpos).mono ?_; rintro e w4 ⟨rfl, rfl⟩; rw [← HK.out])
        | (go_at_call_of 15 (#[Value.pointer (some ⟨p, 0, none⟩), Value.string b, Value.int IntKind.i64 0, Value.int IntKind.i64 (n : Int)] : Array Value); refine (reach_any HD3.out HF.out b (by omega) 0 n (by omega)).mono ?_; rintro e w5 ⟨rfl, rfl⟩; rw [← HR1.out])
        | (go_at_call_of 15 (#[Value.pointer (some ⟨p, 0, none⟩), Value.string b, Value.int IntKind.i64 0, Value.int IntKind.i64 (k : Int)] : Array Value); refine (reach_any HD3.out HF.out b (by omega) 0 k (by omega)).mono ?_; rintro e w6 ⟨rfl, rfl⟩; rw [← HR2.out]))
      go_ret
      exact ⟨by simp, HB3.out⟩
    · obtain rfl := empty_size (s := b) (by omega)
      have hem : ((⟨#[]⟩ : ByteArray).toList == []) = true := by decide +kernel
      have hem2 : (⟨#[]⟩ : ByteArray).toList.isEmpty = true := by decide +kernel
      go_enter Try.func7, Try.ntmps7
      go_wp2_with (first
        | (go_at_call 8; refine (dict_fits H.out HFits.out).mono ?_; rintro e w1 ⟨p, rfl, hd1, hb1⟩; have HD1 := hid hd1; have H1 := hid (H.out.below hb1); have HB1 := hid hb1; clear hd1 hb1)
        | (go_at_call 9; refine (alive_14 _).mono ?_; rintro e w2 ⟨rfl, hb2⟩))
      go_ret
      exact ⟨rfl, HB1.out.trans (hb2.mono HB1.out.size)⟩
  · have HFits := hid hfits
    clear hfits
    go_enter Try.func7, Try.ntmps7
    go_wp2_with (first
      | (go_at_call 8; refine (dict_no H.out HFits.out).mono ?_; rintro e w1 ⟨rfl, rfl⟩)
      | (go_at_call 9; refine (alive_14 _).mono ?_; rintro e w2 ⟨rfl, hb2⟩))
    go_ret
    exact ⟨rfl, hb2⟩

set_option linter.unusedVariables false
theorem flexFar_own : ownKnob Try.prog.godebug = none := by kernel_rfl

theorem flexFar_laidOut : laidOutB Try.prog = true := by kernel_rfl

set_option maxRecDepth 100000 in
theorem flexFar_lifted (os : Os) (started : os.Started) (H : Type) (enc : TypeId × Value → H) :
    ReturnsInHanded {} Try.checked os 7 .any (Rows.flexFarSpec.pre6 enc Try.prog Try.f7 Rows.flexFarRow.domain false) (Rows.flexFarSpec.post enc Try.prog Try.f7 false true false false) := by
  refine returnsInHanded_of_change_sized (C := Try.checked) flexFar_own started (by kernel_rfl) Try.func7
    (ChangeSpec.witness6 (enc := enc) (C := Try.checked) false ⟨#[], #[.slice none 0 0, .string ByteArray.empty], []⟩ 8 (by kernel_rfl) (by kernel_rfl) (by kernel_rfl) (by kernel_rfl)) ?_
  intro W base args ds gs before hval0 hW hcnd hsz0 _
  have hsz : (DataW.weightsEach Try.prog (Try.f7.params.toList ++ Rows.flexFarSpec.plain.varTypes Try.prog) (ds ++ gs)).all (· ≤ reachBytes) = true := hsz0
  have hval : ∀ (j : Nat) t v, Try.f7.params[j]? = some t → args[j]? = some v → Value.okWide Try.prog W .any base t v := hval0
  have hW' := hW
  obtain ⟨p, q, hA0, hV, rfl, hfz, hnd⟩ := hW
  have hA : DataW.TrodAll enc Try.prog W 0 (fun _ => true) true Try.f7.params.toList args.toList ds p := hA0
  rw [Try.params7] at hA hval hsz
  obtain ⟨v0, vs0, d0, ds0, p0, q0, hargs, rfl, rfl, h0, r0⟩ := trodAll_cons hA
  obtain ⟨v1, vs1, d1, ds1, p1, q1, rfl, rfl, rfl, h1, r1⟩ := trodAll_cons r0
  obtain ⟨rfl, rfl, rfl⟩ := trodAll_nil r1
  obtain rfl : args = #[v0, v1] := by cases args; simp_all
  obtain ⟨rfl, rfl⟩ := trodVars_none hV
  obtain ⟨a0, len0, cap0, rfl⟩ := okWide_slice Try.underlying22 (hval 0 22 v0 rfl rfl)
  have k0 := h0
  have lt0 : ∀ x ∈ p0, x.block < W.heap.size := by obtain ⟨m, hm⟩ := k0; exact DataW.trod_lt m _ _ _ hm
  obtain ⟨z0, w0⟩ := h0.elim (fun _ hf => open_list hf hsz 0 rfl rfl)
  obtain ⟨a1, rfl, rfl, rfl, w1⟩ := open_string Try.underlying9 (hval 1 9 v1 rfl rfl) h1
  clear hA0 hval0
  have s1 : a1.size ≤ 140737488351232 := by have h := sized_string hsz (j := 1) (t := 9) rfl rfl; rw [Array.length_toList] at h; exact h
  refine (far_walk _ z0 a1 W w0).mono fun e W' ⟨he, bel⟩ => ?_
  subst he
  exact ⟨_, rfl, _, _, _, [], _, [], hW', trodAll_mk1 (shut_bool Try.underlying4 _), (trodAll_cons_mk (Below.trod flexFar_laidOut (by kernel_rfl) (of_decide_eq_true (by kernel_rfl)) k0 bel lt0) (trodAll_cons_mk (shut_string Try.underlying9 w1) trodAll_mk0)), rfl, bel.frame _, fun h => by cases h⟩

/-- THE STATEMENT. -/
theorem flexFar_holds : Rows.FlexFarSaid :=
  OpenClaim.holds_of_wide 7 Try.f7 rfl rfl rfl rfl rfl rfl rfl ⟨rfl, rfl, rfl, rfl, rfl⟩ rfl rfl rfl rfl rfl (by kernel_rfl) Try.func7 (by kernel_rfl)
    (of_decide_eq_true (by kernel_rfl)) (by unfold Func.isWrapper; first | (rw [if_pos (by decide +kernel)]; kernel_rfl) | (rw [if_neg (by decide +kernel)]; exact ⟨rfl, rfl⟩))
    (fun os started H enc _ => flexFar_lifted os started H enc)
#print axioms flexFar_holds
end Go.Proofs.Ythgpacpahljabaa
