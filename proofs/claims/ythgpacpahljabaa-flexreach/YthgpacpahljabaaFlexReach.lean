/-
  FlexReach: one comes no less far by what is taken than by any other token at that place. For every list of texts, every bytes.
  No condition: whatever the input, in whatever memory; the arguments read as before.
-/
import Derived.Test.YthgpacpahljabaaAlive14
import Derived.ShutString
import Derived.ChangeOld
import Derived.SizedLaws
namespace Go.Proofs.Ythgpacpahljabaa
open Go.ChangeShapes Go.WideShapes Go.ChangeAt Go.RowKit
open Go.ChangeMaps (open_string shut_string)

set_option maxRecDepth 20000 in
set_option maxHeartbeats 8000000 in
theorem reach_walk (v : Value) (L : List ByteArray) (b : ByteArray) (w : World) (h : ListIn w v L) :
    Calls Try.prog 4 #[v, .string b] w fun e w' => e = .returned (.bool true) ∧ Below w.heap.size w w' := by
  have H := hid h
  clear h
  by_cases hfits : Fits L (b)
  · obtain ⟨_, h400, hF⟩ := id hfits
    have HF := hid hF
    have hl100 := hF.1
    have HFits := hid hfits
    clear hF hfits
    go_enter Try.func4, Try.ntmps4
    go_wp2_with (first
      | (go_at_call 8; refine (dict_fits H.out HFits.out).mono ?_; rintro e w1 ⟨p, rfl, hd1, hb1⟩; have HD1 := hid hd1; have H1 := hid (H.out.below hb1); have HB1 := hid hb1; clear hd1 hb1)
      | (go_at_call 9; refine (alive_14 _).mono ?_; rintro e w2 ⟨rfl, hb2⟩; have H2 := hid (H1.out.below hb2); have HD2 := hid (HD1.out.below hb2); have HB2 := hid (HB1.out.trans (hb2.mono HB1.out.size)); clear hb2))
    go_loopw [7] (fun va wr => ∃ a : Nat, va = .int .i64 a ∧ a ≤ b.size ∧ Hid (Below w2.heap.size w2 wr)) (fun va _ => b.size - (intOf va).toNat)
    case atStart => exact ⟨0, rfl, by omega, Below.refl _ _⟩
    case round =>
      obtain ⟨a, rfl, ha, hbr⟩ := hrel
      by_cases h1 : a < b.size
      · have hda : decide ((a : Int) < (b.size : Int)) = true := decide_eq_true (by omega)
        have HNX := hid (nextX_any (HD2.out.below hbr.out) HF.out b (by omega) a h1)
        have hp := xN_pos HF.out (drop_some h1)
        rw [List.length_drop, nums_length] at hp
        have hle := fun n hn => (rN_le HF.out ((nums b).drop a) n hn).1
        rw [List.length_drop, nums_length] at hle
        have hR := fun W (hW : Below w2.heap.size w2 W) n hn => reach_any (HD2.out.below hW) HF.out b (by omega) a n hn
        obtain ⟨st, hst⟩ : ∃ st, st = standsT (L.map nums) 40 ((nums b).drop a) := ⟨_, rfl⟩
        have hst40 := standsT_few3 (L.map nums) 40 ((nums b).drop a)
        rw [← hst] at hst40
        obtain ⟨ls, hls⟩ : ∃ ls, ls = st ++ [1] := ⟨_, rfl⟩
        have hok : ∀ k ∈ ls, a + k ≤ b.size ∧ rN L ((nums b).drop a) k ≤ rN L ((nums b).drop a) (xN L ((nums b).drop a)) ∧ (rN L ((nums b).drop a) k = rN L ((nums b).drop a) (xN L ((nums b).drop a)) → k ≤ xN L ((nums b).drop a)) := by
          intro k hk
          rw [hls] at hk
          have hk2 : k ∈ lensT (L.map nums) 40 ((nums b).drop a) := by
            rw [lensT_mem, ← hst]
            simpa using hk
          have hb := xN_best HF.out ((nums b).drop a) k hk2
          refine ⟨?_, hb⟩
          rcases (lensT_mem _ _ _ _).1 hk2 with h | rfl
          · have := (standsT_mem _ 40 (phrases_short HF.out) _ k).1 h
            rw [List.length_drop, nums_length] at this
            omega
          · omega
        obtain ⟨t, ht⟩ : ∃ t, t = xT L ((nums b).drop a) := ⟨_, rfl⟩
        obtain ⟨n, hn⟩ : ∃ n, n = xN L ((nums b).drop a) := ⟨_, rfl⟩
        rw [← hn] at hp hok
        rw [← hn, ← ht] at HNX
        obtain ⟨f, hf⟩ : ∃ f, f = a + rN L ((nums b).drop a) n := ⟨_, rfl⟩
        have hfl : f ≤ 1000 := by have := hle n (by omega); omega
        have HR1 : Hid (∀ W, Below w2.heap.size w2 W → Calls Try.prog 15 #[.pointer (some ⟨p, 0, none⟩), .string b, .int .i64 (a : Int), .int .i64 (n : Int)] W fun e w' => e = .returned (.int .i64 (f : Int)) ∧ w' = W) := fun W hW => by rw [hf]; exact hR W hW n (by omega)
        have HOK : Hid (∀ k ∈ ls, a + k ≤ b.size ∧ a + rN L ((nums b).drop a) k ≤ f ∧ (a + rN L ((nums b).drop a) k = f → k ≤ n)) := fun k hk => by
          have := hok k hk
          exact ⟨this.1, by omega, fun h => this.2.2 (by omega)⟩
        have HR := hid hR
        have HLS : Hid (ints ls = ints st ++ [(1 : Int)]) := by show _ = _; rw [hls]; simp [ints]
        obtain ⟨q, hq⟩ : ∃ q, q = ls.length := ⟨_, rfl⟩
        have hq1 : 1 ≤ q := by rw [hq, hls]; simp
        have hq2 : q ≤ 41 := by rw [hq, hls]; simp; omega
        have HST := hid hst
        have HQ := hid hq
        have hn1 := hp.1
        have hnb : a + n ≤ b.size := by omega
        have d1 : decide ((n : Int) < 1) = false := decide_eq_false (by omega)
        have d12 : decide (n < 1) = false := decide_eq_false (by omega)
        obtain ⟨m, hm⟩ : ∃ m, m = b.size - a := ⟨_, rfl⟩
        have hsub : (b.size : Int) - (a : Int) = (m : Int) := by omega
        have hm1 : m ≤ 1000 := by omega
        have d2 : decide ((m : Int) < (n : Int)) = false := decide_eq_false (by omega)
        have d22 : decide (m < n) = false := decide_eq_false (by omega)
        clear hok hR hp hle hst hls hn ht hf hq hm
        go_wp2_with (first
          | (go_at_call 12; refine (HNX.out).mono ?_; rintro e w3 ⟨rfl, q3, hq3⟩; have HB3 := hid (show Below w2.heap.size w2 w3 from by rw [hq3]; exact hbr.out.trans (drewN_below _ _ _)); clear hq3)
          | (go_at_call 21; refine (stands_any (H2.out.1.below HB3.out) (by omega) b (by omega) a h1).mono ?_; rintro e w5 ⟨v5, rfl, ho5, hb5⟩; rw [numsI_ints, ← HST.out, ← ints_length st] at ho5; have HO5 := hid ho5; have HB5 := hid hb5; clear ho5 hb5)
          | (at_builtin; refine wpList_append_ints rfl (.tmp 59) (.tmp 60) rfl _ _ (ints st) rfl (HO5.out.alloc _) _ [(1 : Int)] rfl (reads_built _ #[.int .i64 1] _ 1 rfl) (by rw [ints_length]; simp <;> omega) (by have := HB5.out.size; simp; omega) ?_; intro v6 w6 ho6 hb6; rw [← HLS.out, ints_length, ← HQ.out] at ho6; obtain ⟨g6, c6, rfl, _, _⟩ := ho6.form (by omega); have HO6 := hid ho6; have hal6 := (HB5.out.alloc HB5.out.size (.cells #[.int .i64 1] 3)).trans hb6; have HZ6 := hid (HB3.out.trans (hal6.mono HB3.out.size)); clear ho6 hb6 hal6)
          | (go_at_call 15; refine (HR1.out _ HB3.out).mono ?_; rintro e w4 ⟨rfl, rfl⟩))
        go_loopw [63] (fun vi wi => ∃ i : Nat, vi = .int .i64 i ∧ i ≤ q ∧ Hid (Below w6.heap.size w6 wi)) (fun vi _ => q - (intOf vi).toNat)
        case atStart => exact ⟨0, rfl, by omega, Below.refl _ _⟩
        case round =>
          obtain ⟨i, rfl, hi, hbi⟩ := hrel
          by_cases hiq : i < q
          · have hdi : decide ((i : Int) < (q : Int)) = true := decide_eq_true (by omega)
            have hx' : (decide ((0 : Int) ≤ (i : Int) ∧ (i : Int) < (q : Int))) = true := decide_eq_true ⟨by omega, by omega⟩
            have hiL : i < ls.length := by rw [← HQ.out]; exact hiq
            have hci := HO6.out.cellAt i (by omega)
            rw [ints_get ls i hiL] at hci
            have hcw := keeps hbi.out _ _ hci
            have hok := HOK.out _ (List.getElem_mem hiL)
            obtain ⟨k, hk⟩ : ∃ k, k = ls[i]'hiL := ⟨_, rfl⟩
            rw [← hk] at hcw hok
            have HW := hid (HZ6.out.trans (hbi.out.mono HZ6.out.size))
            have hRk := HR.out _ HW.out k hok.1
            obtain ⟨r, hr⟩ : ∃ r, r = a + rN L ((nums b).drop a) k := ⟨_, rfl⟩
            rw [← hr] at hok hRk
            have HRk := hid hRk
            have hrf := hok.2.1
            have hrl : r ≤ 1000 := by omega
            have hkb : k ≤ 1000 := by omega
            have e1 : decide ((f : Int) < (r : Int)) = false := decide_eq_false (by omega)
            have e12 : decide (f < r) = false := decide_eq_false (by omega)
            by_cases he : r = f
            · have hkn := hok.2.2 he
              have e2 : ((f : Int) == (f : Int)) = true := by simp
              have e3 : decide ((n : Int) < (k : Int)) = false := decide_eq_false (by omega)
              have e32 : decide (n < k) = false := decide_eq_false (by omega)
              clear hok hRk hr hk hci
              subst he
              go_wp2_with (go_at_call 15; refine (HRk.out).mono ?_; rintro e w7 ⟨rfl, rfl⟩)
              go_roundw
              case rel => exact ⟨i + 1, by go_num, by omega, hbi.out⟩
              case measure => simp [intOf]; omega
            · have e2 : ((r : Int) == (f : Int)) = false := beq_false_of_ne (by omega)
              have e22 : (r == f) = false := beq_false_of_ne he
              clear hok hRk hr hk hci
              go_wp2_with (go_at_call 15; refine (HRk.out).mono ?_; rintro e w7 ⟨rfl, rfl⟩)
              go_roundw
              case rel => exact ⟨i + 1, by go_num, by omega, hbi.out⟩
              case measure => simp [intOf]; omega
          · obtain rfl : i = q := by omega
            have hdi : decide ((i : Int) < (i : Int)) = false := decide_eq_false (by omega)
            have HW := hid (HZ6.out.trans (hbi.out.mono HZ6.out.size))
            go_wp2
            go_roundw
            case rel => exact ⟨a + 1, by go_num, by omega, HW.out⟩
            case measure => simp [intOf]; omega
      · obtain rfl : a = b.size := by omega
        have hda : decide ((b.size : Int) < (b.size : Int)) = false := decide_eq_false (by omega)
        have HBr := hid (HB2.out.trans (hbr.out.mono HB2.out.size))
        go_wp2
        go_ret
        exact ⟨rfl, HBr.out⟩
  · have HFits := hid hfits
    clear hfits
    go_enter Try.func4, Try.ntmps4
    go_wp2_with (first
      | (go_at_call 8; refine (dict_no H.out HFits.out).mono ?_; rintro e w1 ⟨rfl, rfl⟩)
      | (go_at_call 9; refine (alive_14 _).mono ?_; rintro e w2 ⟨rfl, hb2⟩))
    go_ret
    exact ⟨rfl, hb2⟩

set_option linter.unusedVariables false
theorem flexReach_own : ownKnob Try.prog.godebug = none := by kernel_rfl

theorem flexReach_laidOut : laidOutB Try.prog = true := by kernel_rfl

set_option maxRecDepth 100000 in
theorem flexReach_lifted (os : Os) (started : os.Started) (H : Type) (enc : TypeId × Value → H) :
    ReturnsInHanded {} Try.checked os 4 .any (Rows.flexReachSpec.pre6 enc Try.prog Try.f4 Rows.flexReachRow.domain false) (Rows.flexReachSpec.post enc Try.prog Try.f4 false true false false) := by
  refine returnsInHanded_of_change_sized (C := Try.checked) flexReach_own started (by kernel_rfl) Try.func4
    (ChangeSpec.witness6 (enc := enc) (C := Try.checked) false ⟨#[], #[.slice none 0 0, .string ByteArray.empty], []⟩ 8 (by kernel_rfl) (by kernel_rfl) (by kernel_rfl) (by kernel_rfl)) ?_
  intro W base args ds gs before hval0 hW hcnd hsz0 _
  have hsz : (DataW.weightsEach Try.prog (Try.f4.params.toList ++ Rows.flexReachSpec.plain.varTypes Try.prog) (ds ++ gs)).all (· ≤ reachBytes) = true := hsz0
  have hval : ∀ (j : Nat) t v, Try.f4.params[j]? = some t → args[j]? = some v → Value.okWide Try.prog W .any base t v := hval0
  have hW' := hW
  obtain ⟨p, q, hA0, hV, rfl, hfz, hnd⟩ := hW
  have hA : DataW.TrodAll enc Try.prog W 0 (fun _ => true) true Try.f4.params.toList args.toList ds p := hA0
  rw [Try.params4] at hA hval hsz
  obtain ⟨v0, vs0, d0, ds0, p0, q0, hargs, rfl, rfl, h0, r0⟩ := trodAll_cons hA
  obtain ⟨v1, vs1, d1, ds1, p1, q1, rfl, rfl, rfl, h1, r1⟩ := trodAll_cons r0
  obtain ⟨rfl, rfl, rfl⟩ := trodAll_nil r1
  obtain rfl : args = #[v0, v1] := by cases args; simp_all
  obtain ⟨rfl, rfl⟩ := trodVars_none hV
  obtain ⟨a0, len0, cap0, rfl⟩ := okWide_slice Try.underlying22 (hval 0 22 v0 rfl rfl)
  have k0 := h0
  have lt0 : ∀ x ∈ p0, x.block < W.heap.size := by obtain ⟨m, hm⟩ := k0; exact DataW.trod_lt m _ _ _ hm
  obtain ⟨z0, w0⟩ := h0.elim (fun _ hf => open_list hf hsz 0 rfl rfl)
  obtain ⟨a1, rfl, rfl, rfl, w1⟩ := open_string Try.underlying9 (hval 1 9 v1 rfl rfl) h1
  clear hA0 hval0
  have s1 : a1.size ≤ 140737488351232 := by have h := sized_string hsz (j := 1) (t := 9) rfl rfl; rw [Array.length_toList] at h; exact h
  refine (reach_walk _ z0 a1 W w0).mono fun e W' ⟨he, bel⟩ => ?_
  subst he
  exact ⟨_, rfl, _, _, _, [], _, [], hW', trodAll_mk1 (shut_bool Try.underlying4 _), (trodAll_cons_mk (Below.trod flexReach_laidOut (by kernel_rfl) (of_decide_eq_true (by kernel_rfl)) k0 bel lt0) (trodAll_cons_mk (shut_string Try.underlying9 w1) trodAll_mk0)), rfl, bel.frame _, fun h => by cases h⟩

/-- THE STATEMENT. -/
theorem flexReach_holds : Rows.FlexReachSaid :=
  OpenClaim.holds_of_wide 4 Try.f4 rfl rfl rfl rfl rfl rfl rfl ⟨rfl, rfl, rfl, rfl, rfl⟩ rfl rfl rfl rfl rfl (by kernel_rfl) Try.func4 (by kernel_rfl)
    (of_decide_eq_true (by kernel_rfl)) (by unfold Func.isWrapper; first | (rw [if_pos (by decide +kernel)]; kernel_rfl) | (rw [if_neg (by decide +kernel)]; exact ⟨rfl, rfl⟩))
    (fun os started H enc _ => flexReach_lifted os started H enc)
#print axioms flexReach_holds
end Go.Proofs.Ythgpacpahljabaa
