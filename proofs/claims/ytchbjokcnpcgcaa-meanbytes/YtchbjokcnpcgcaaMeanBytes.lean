/-
  MeanBytes: each byte means itself; each phrase's token the phrase; beyond there is none. For every list of texts, every byte, every number.
  No condition: whatever the input, in whatever memory; the arguments read as before.
-/
import Derived.Test.YtchbjokcnpcgcaaAlive16
import Derived.Test.YtchbjokcnpcgcaaInts
import Derived.BigQuiet
import Derived.ChangeOld
import Derived.SizedLaws
namespace Go.Proofs.Ytchbjokcnpcgcaa
open Go.ChangeShapes Go.WideShapes Go.ChangeAt Go.RowKit

theorem byte_of {n : Int} (h : (Lit.int .u8 n).wf = true) : 0 ≤ n ∧ n < 256 := by
  simp only [Lit.wf, Bool.and_eq_true, IntKind.min, IntKind.max, IntKind.signed, IntKind.bits] at h
  simp at h
  omega

/-- One token alone. -/
theorem one_in {L : List ByteArray} {t : Nat} (ht : isT (L.map nums) t) (n : Int) (hn : ((sayT (L.map nums) t).length : Int) ≤ n) : ofR L n [(t : Int)] = (sayT (L.map nums) t, 0) := by
  unfold ofR
  rw [meanR_next _ _ _ _ _ (isT_I ht) (by rw [Int.toNat_natCast, List.length_nil]; omega), Int.toNat_natCast, List.nil_append, meanR_nil]

theorem one_out {L : List ByteArray} {x : Int} (h : ¬ isI (L.map nums) x) (n : Int) : ofR L n [x] = ([], 9) := by
  unfold ofR
  rw [meanR_none _ _ _ _ _ h]

set_option maxRecDepth 20000 in
set_option maxHeartbeats 8000000 in
theorem bytes_walk (v : Value) (L : List ByteArray) (c0 k : Int) (hc0 : 0 ≤ c0 ∧ c0 < 256) (w : World) (h : ListIn w v L) :
    Calls Try.prog 5 #[v, .int .u8 c0, .int .i64 k] w fun e w' => e = .returned (.bool true) ∧ Below w.heap.size w w' := by
  have H := hid h
  clear h
  obtain ⟨c, rfl⟩ := Int.eq_ofNat_of_zero_le hc0.1
  have hc : c < 256 := by omega
  clear hc0
  by_cases hfits : Fits L (⟨#[]⟩)
  · obtain ⟨_, h400, hF⟩ := id hfits
    have HF := hid hF
    have hl100 := hF.1
    have HFits := hid hfits
    clear hF hfits
    obtain ⟨⟨a, ca, rfl, _⟩, _, _⟩ := id H.out
    rw [strs_length] at *
    have hl1 : L.length ≤ 1000 := by omega
    have hcT : isT (L.map nums) c := by unfold isT; omega
    have HcT := hid hcT
    have HC1 : Hid ((sayT (L.map nums) c).length = 1) := by show _ = _; rw [sayT_one (by omega)]; rfl
    obtain ⟨sb, hsb⟩ : ∃ sb, sb = bytesOf [c] := ⟨_, rfl⟩
    have M1 : Hid ((Value.tuple #[.string (bytesOf (ofR L 1 [(c : Int)]).1), .int .i64 ((ofR L 1 [(c : Int)]).2 : Int)]) = .tuple #[.string sb, .int .i64 0]) := by
      show _ = _
      rw [one_in hcT 1 (by rw [HC1.out]; decide), sayT_one (by omega), hsb]
      rfl
    have M2 : Hid ((Value.tuple #[.string (bytesOf (ofR L 1048576 [(256 + (L.length : Int))]).1), .int .i64 ((ofR L 1048576 [(256 + (L.length : Int))]).2 : Int)]) = .tuple #[.string ⟨#[]⟩, .int .i64 9]) := by
      show _ = _
      rw [one_out (by unfold isI; rw [List.length_map]; omega)]
      rfl
    have M3 : Hid ((Value.tuple #[.string (bytesOf (ofR L 1048576 [(-1 : Int)]).1), .int .i64 ((ofR L 1048576 [(-1 : Int)]).2 : Int)]) = .tuple #[.string ⟨#[]⟩, .int .i64 9]) := by
      show _ = _
      rw [one_out (by unfold isI; omega)]
      rfl
    have hcv := fun W => conv_byte W c
    rw [← hsb] at hcv
    have hbb : (sb.toList == sb.toList) = true := text_eq rfl
    have hw : IntKind.i64.wrap (c : Int) = (c : Int) := by rw [IntKind.wrap_i64]; omega
    clear hcT hsb

    by_cases hk : 0 ≤ k ∧ k < (L.length : Int)
    ·
      obtain ⟨q, rfl⟩ : ∃ q : Nat, k = (q : Int) := ⟨k.toNat, by omega⟩
      have hq : q < L.length := by omega
      have hqT : isT (L.map nums) (256 + q) := by unfold isT; rw [List.length_map]; omega
      have h40 := (((fine_iff L).1 HF.out).2.1 _ (List.getElem_mem hq)).2
      have hsq : sayT (L.map nums) (256 + q) = nums (L[q]'hq) := sayT_ph hq
      have HS : Hid (strs L = strs L ∧ (strs L)[q]? = some (.string (L[q]'hq))) := ⟨rfl, strs_at L q hq⟩
      obtain ⟨s, hs⟩ : ∃ s, s = L[q]'hq := ⟨_, rfl⟩
      rw [← hs] at hsq h40 HS
      have hln : (sayT (L.map nums) (256 + q)).length = s.size := by rw [hsq, nums_length]
      have M4 : Hid ((Value.tuple #[.string (bytesOf (ofR L 1048576 [(256 + (q : Int))]).1), .int .i64 ((ofR L 1048576 [(256 + (q : Int))]).2 : Int)]) = .tuple #[.string s, .int .i64 0]) := by
        show _ = _
        have e : (256 + (q : Int)) = ((256 + q : Nat) : Int) := by omega
        rw [e, one_in hqT 1048576 (by rw [hln]; omega), hsq, bytesOf_nums]
        rfl
      have HQT := hid hqT
      have HLQ : Hid (∀ {W : World} {d : Value}, DictV W d L → Calls Try.prog 14 #[d, .int .i64 (256 + (q : Int))] W fun e w' => e = .returned (.int .i64 (s.size : Int)) ∧ w' = W) := by
        intro W d hd
        have e : (256 + (q : Int)) = ((256 + q : Nat) : Int) := by omega
        have h := len_in hd hl1 (256 + q) hqT
        rwa [hln, ← e] at h
      have hss : (s.toList == s.toList) = true := text_eq rfl
      have hx1 : (decide ((0 : Int) ≤ (q : Int) ∧ (q : Int) < (L.length : Int))) = true := decide_eq_true ⟨by omega, by omega⟩
      have hx2 : decide ((q : Int) < 0) = false := decide_eq_false (by omega)
      have hx3 : decide ((L.length : Int) ≤ (q : Int)) = false := decide_eq_false (by omega)
      clear hqT hsq hln hs
      go_enter Try.func5, Try.ntmps5
      go_wp2_with (first
        | (go_at_call 8; refine (dict_fits H.out HFits.out).mono ?_; rintro e w1 ⟨p, rfl, hd1, hb1⟩; have HD1 := hid hd1; have H1 := hid (H.out.below hb1); have HB1 := hid hb1; clear hd1 hb1)
        | (go_at_call 9; refine (alive_16 _).mono ?_; rintro e w2 ⟨rfl, hb2⟩; have H2 := hid (H1.out.below hb2); have HD2 := hid (HD1.out.below hb2); have HB2 := hid (HB1.out.trans (hb2.mono HB1.out.size)); clear hb2)
        | (have _h := laterM3; go_at_call 11; have hal : Below w6.heap.size w6 (w6.alloc (.cells #[.int .i64 (256 + (q : Int))] 3)) := (Below.refl _ _).alloc (Nat.le_refl _) _; refine (of_any (zs := [(256 + (q : Int))]) (HD6.out.below hal) HF.out (reads_built w6 #[.int .i64 (256 + (q : Int))] _ 1 rfl) (by simp) 1048576 (by decide) (by decide)).mono ?_; rintro e w7 ⟨rfl, hb7⟩; rw [M4.out]; have hbb : Below w6.heap.size w6 w7 := below_more hal hb7; have H7 := hid (H6.out.below hbb); have HD7 := hid (HD6.out.below hbb); have HB7 := hid (HB6.out.trans (hbb.mono HB6.out.size)); have laterM4 := hid True.intro; clear hb7 hbb hal)
        | (have _h := laterM2; go_at_call 11; have hal : Below w5.heap.size w5 (w5.alloc (.cells #[.int .i64 (-1 : Int)] 3)) := (Below.refl _ _).alloc (Nat.le_refl _) _; refine (of_any (zs := [(-1 : Int)]) (HD5.out.below hal) HF.out (reads_built w5 #[.int .i64 (-1 : Int)] _ 1 rfl) (by simp) 1048576 (by decide) (by decide)).mono ?_; rintro e w6 ⟨rfl, hb6⟩; rw [M3.out]; have hbb : Below w5.heap.size w5 w6 := below_more hal hb6; have H6 := hid (H5.out.below hbb); have HD6 := hid (HD5.out.below hbb); have HB6 := hid (HB5.out.trans (hbb.mono HB5.out.size)); have laterM3 := hid True.intro; clear hb6 hbb hal)
        | (have _h := laterL; go_at_call 11; have hal : Below w4.heap.size w4 (w4.alloc (.cells #[.int .i64 (256 + (L.length : Int))] 3)) := (Below.refl _ _).alloc (Nat.le_refl _) _; refine (of_any (zs := [(256 + (L.length : Int))]) (HD4.out.below hal) HF.out (reads_built w4 #[.int .i64 (256 + (L.length : Int))] _ 1 rfl) (by simp) 1048576 (by decide) (by decide)).mono ?_; rintro e w5 ⟨rfl, hb5⟩; rw [M2.out]; have hbb : Below w4.heap.size w4 w5 := below_more hal hb5; have H5 := hid (H4.out.below hbb); have HD5 := hid (HD4.out.below hbb); have HB5 := hid (HB4.out.trans (hbb.mono HB4.out.size)); have laterM2 := hid True.intro; clear hb5 hbb hal)
        | (go_at_call 11; have hal : Below w2.heap.size w2 (w2.alloc (.cells #[.int .i64 (c : Int)] 3)) := (Below.refl _ _).alloc (Nat.le_refl _) _; refine (of_any (zs := [(c : Int)]) (HD2.out.below hal) HF.out (reads_built w2 #[.int .i64 (c : Int)] _ 1 rfl) (by simp) 1 (by decide) (by decide)).mono ?_; rintro e w3 ⟨rfl, hb3⟩; rw [M1.out]; have hbb : Below w2.heap.size w2 w3 := below_more hal hb3; have H3 := hid (H2.out.below hbb); have HD3 := hid (HD2.out.below hbb); have HB3 := hid (HB2.out.trans (hbb.mono HB2.out.size)); have laterM1 := hid True.intro; clear hb3 hbb hal)
        | (go_at_call 14; refine (len_in (HD3.out.below ((Below.refl _ _).alloc (Nat.le_refl _) _)) hl1 c HcT.out).mono ?_; rintro e w4 ⟨rfl, hw4⟩; rw [HC1.out]; have hbb : Below w3.heap.size w3 w4 := (by rw [hw4]; exact (Below.refl _ _).alloc (Nat.le_refl _) _); have H4 := hid (H3.out.below hbb); have HD4 := hid (HD3.out.below hbb); have HB4 := hid (HB3.out.trans (hbb.mono HB3.out.size)); have laterL := hid True.intro; clear hw4 hbb))
      have hcell : ∃ g o, a = some ⟨g, o, none⟩ ∧ w7.cell? ⟨g, o + q, none⟩ = some (.string s) := by
        obtain ⟨a', c', e, ha⟩ := H7.out.1
        simp only [Value.slice.injEq] at e
        obtain ⟨rfl, _, _⟩ := e
        rcases ha with h0 | ⟨g, o, rfl, _, hc⟩
        · rw [strs_length] at h0; omega
        · exact ⟨g, o, rfl, (hc q (by rw [strs_length]; omega)).trans HS.out.2⟩
      obtain ⟨g, o, rfl, hcl⟩ := hcell
      go_quiet ((go_at_call 14; exact Calls.quiet_of_same (HLQ.out (HD7.out.drewN _))))
      go_wp2
      go_ret
      exact ⟨by simp, HB7.out.trans (drewN_below _ _ _)⟩
    · by_cases hk0 : k < 0
      · have hd0 : decide (k < 0) = true := decide_eq_true hk0
        go_enter Try.func5, Try.ntmps5
        go_wp2_with (first
          | (go_at_call 8; refine (dict_fits H.out HFits.out).mono ?_; rintro e w1 ⟨p, rfl, hd1, hb1⟩; have HD1 := hid hd1; have H1 := hid (H.out.below hb1); have HB1 := hid hb1; clear hd1 hb1)
          | (go_at_call 9; refine (alive_16 _).mono ?_; rintro e w2 ⟨rfl, hb2⟩; have H2 := hid (H1.out.below hb2); have HD2 := hid (HD1.out.below hb2); have HB2 := hid (HB1.out.trans (hb2.mono HB1.out.size)); clear hb2)
          | (have _h := laterM2; go_at_call 11; have hal : Below w5.heap.size w5 (w5.alloc (.cells #[.int .i64 (-1 : Int)] 3)) := (Below.refl _ _).alloc (Nat.le_refl _) _; refine (of_any (zs := [(-1 : Int)]) (HD5.out.below hal) HF.out (reads_built w5 #[.int .i64 (-1 : Int)] _ 1 rfl) (by simp) 1048576 (by decide) (by decide)).mono ?_; rintro e w6 ⟨rfl, hb6⟩; rw [M3.out]; have hbb : Below w5.heap.size w5 w6 := below_more hal hb6; have H6 := hid (H5.out.below hbb); have HD6 := hid (HD5.out.below hbb); have HB6 := hid (HB5.out.trans (hbb.mono HB5.out.size)); have laterM3 := hid True.intro; clear hb6 hbb hal)
          | (have _h := laterL; go_at_call 11; have hal : Below w4.heap.size w4 (w4.alloc (.cells #[.int .i64 (256 + (L.length : Int))] 3)) := (Below.refl _ _).alloc (Nat.le_refl _) _; refine (of_any (zs := [(256 + (L.length : Int))]) (HD4.out.below hal) HF.out (reads_built w4 #[.int .i64 (256 + (L.length : Int))] _ 1 rfl) (by simp) 1048576 (by decide) (by decide)).mono ?_; rintro e w5 ⟨rfl, hb5⟩; rw [M2.out]; have hbb : Below w4.heap.size w4 w5 := below_more hal hb5; have H5 := hid (H4.out.below hbb); have HD5 := hid (HD4.out.below hbb); have HB5 := hid (HB4.out.trans (hbb.mono HB4.out.size)); have laterM2 := hid True.intro; clear hb5 hbb hal)
          | (go_at_call 11; have hal : Below w2.heap.size w2 (w2.alloc (.cells #[.int .i64 (c : Int)] 3)) := (Below.refl _ _).alloc (Nat.le_refl _) _; refine (of_any (zs := [(c : Int)]) (HD2.out.below hal) HF.out (reads_built w2 #[.int .i64 (c : Int)] _ 1 rfl) (by simp) 1 (by decide) (by decide)).mono ?_; rintro e w3 ⟨rfl, hb3⟩; rw [M1.out]; have hbb : Below w2.heap.size w2 w3 := below_more hal hb3; have H3 := hid (H2.out.below hbb); have HD3 := hid (HD2.out.below hbb); have HB3 := hid (HB2.out.trans (hbb.mono HB2.out.size)); have laterM1 := hid True.intro; clear hb3 hbb hal)
          | (go_at_call 14; refine (len_in (HD3.out.below ((Below.refl _ _).alloc (Nat.le_refl _) _)) hl1 c HcT.out).mono ?_; rintro e w4 ⟨rfl, hw4⟩; rw [HC1.out]; have hbb : Below w3.heap.size w3 w4 := (by rw [hw4]; exact (Below.refl _ _).alloc (Nat.le_refl _) _); have H4 := hid (H3.out.below hbb); have HD4 := hid (HD3.out.below hbb); have HB4 := hid (HB3.out.trans (hbb.mono HB3.out.size)); have laterL := hid True.intro; clear hw4 hbb))
        go_ret
        exact ⟨by simp, HB6.out⟩
      · have hd0 : decide (k < 0) = false := decide_eq_false hk0
        have hd1 : decide ((L.length : Int) ≤ k) = true := decide_eq_true (by omega)
        go_enter Try.func5, Try.ntmps5
        go_wp2_with (first
          | (go_at_call 8; refine (dict_fits H.out HFits.out).mono ?_; rintro e w1 ⟨p, rfl, hd1, hb1⟩; have HD1 := hid hd1; have H1 := hid (H.out.below hb1); have HB1 := hid hb1; clear hd1 hb1)
          | (go_at_call 9; refine (alive_16 _).mono ?_; rintro e w2 ⟨rfl, hb2⟩; have H2 := hid (H1.out.below hb2); have HD2 := hid (HD1.out.below hb2); have HB2 := hid (HB1.out.trans (hb2.mono HB1.out.size)); clear hb2)
          | (have _h := laterM2; go_at_call 11; have hal : Below w5.heap.size w5 (w5.alloc (.cells #[.int .i64 (-1 : Int)] 3)) := (Below.refl _ _).alloc (Nat.le_refl _) _; refine (of_any (zs := [(-1 : Int)]) (HD5.out.below hal) HF.out (reads_built w5 #[.int .i64 (-1 : Int)] _ 1 rfl) (by simp) 1048576 (by decide) (by decide)).mono ?_; rintro e w6 ⟨rfl, hb6⟩; rw [M3.out]; have hbb : Below w5.heap.size w5 w6 := below_more hal hb6; have H6 := hid (H5.out.below hbb); have HD6 := hid (HD5.out.below hbb); have HB6 := hid (HB5.out.trans (hbb.mono HB5.out.size)); have laterM3 := hid True.intro; clear hb6 hbb hal)
          | (have _h := laterL; go_at_call 11; have hal : Below w4.heap.size w4 (w4.alloc (.cells #[.int .i64 (256 + (L.length : Int))] 3)) := (Below.refl _ _).alloc (Nat.le_refl _) _; refine (of_any (zs := [(256 + (L.length : Int))]) (HD4.out.below hal) HF.out (reads_built w4 #[.int .i64 (256 + (L.length : Int))] _ 1 rfl) (by simp) 1048576 (by decide) (by decide)).mono ?_; rintro e w5 ⟨rfl, hb5⟩; rw [M2.out]; have hbb : Below w4.heap.size w4 w5 := below_more hal hb5; have H5 := hid (H4.out.below hbb); have HD5 := hid (HD4.out.below hbb); have HB5 := hid (HB4.out.trans (hbb.mono HB4.out.size)); have laterM2 := hid True.intro; clear hb5 hbb hal)
          | (go_at_call 11; have hal : Below w2.heap.size w2 (w2.alloc (.cells #[.int .i64 (c : Int)] 3)) := (Below.refl _ _).alloc (Nat.le_refl _) _; refine (of_any (zs := [(c : Int)]) (HD2.out.below hal) HF.out (reads_built w2 #[.int .i64 (c : Int)] _ 1 rfl) (by simp) 1 (by decide) (by decide)).mono ?_; rintro e w3 ⟨rfl, hb3⟩; rw [M1.out]; have hbb : Below w2.heap.size w2 w3 := below_more hal hb3; have H3 := hid (H2.out.below hbb); have HD3 := hid (HD2.out.below hbb); have HB3 := hid (HB2.out.trans (hbb.mono HB2.out.size)); have laterM1 := hid True.intro; clear hb3 hbb hal)
          | (go_at_call 14; refine (len_in (HD3.out.below ((Below.refl _ _).alloc (Nat.le_refl _) _)) hl1 c HcT.out).mono ?_; rintro e w4 ⟨rfl, hw4⟩; rw [HC1.out]; have hbb : Below w3.heap.size w3 w4 := (by rw [hw4]; exact (Below.refl _ _).alloc (Nat.le_refl _) _); have H4 := hid (H3.out.below hbb); have HD4 := hid (HD3.out.below hbb); have HB4 := hid (HB3.out.trans (hbb.mono HB3.out.size)); have laterL := hid True.intro; clear hw4 hbb))
        go_ret
        exact ⟨by simp, HB6.out⟩
  · have HFits := hid hfits
    clear hfits
    go_enter Try.func5, Try.ntmps5
    go_wp2_with (first
      | (go_at_call 8; refine (dict_no H.out HFits.out).mono ?_; rintro e w1 ⟨rfl, rfl⟩)
      | (go_at_call 9; refine (alive_16 _).mono ?_; rintro e w2 ⟨rfl, hb2⟩))
    go_ret
    exact ⟨rfl, hb2⟩

set_option linter.unusedVariables false
theorem meanBytes_own : ownKnob Try.prog.godebug = none := by kernel_rfl

theorem meanBytes_laidOut : laidOutB Try.prog = true := by kernel_rfl

set_option maxRecDepth 100000 in
theorem meanBytes_lifted (os : Os) (started : os.Started) (H : Type) (enc : TypeId × Value → H) :
    ReturnsInHanded {} Try.checked os 5 .any (Rows.meanBytesSpec.pre6 enc Try.prog Try.f5 Rows.meanBytesRow.domain false) (Rows.meanBytesSpec.post enc Try.prog Try.f5 false true false false) := by
  refine returnsInHanded_of_change_sized (C := Try.checked) meanBytes_own started (by kernel_rfl) Try.func5
    (ChangeSpec.witness6 (enc := enc) (C := Try.checked) false ⟨#[], #[.slice none 0 0, .int .u8 0, .int .i64 0], []⟩ 8 (by kernel_rfl) (by kernel_rfl) (by kernel_rfl) (by kernel_rfl)) ?_
  intro W base args ds gs before hval0 hW hcnd hsz0 _
  have hsz : (DataW.weightsEach Try.prog (Try.f5.params.toList ++ Rows.meanBytesSpec.plain.varTypes Try.prog) (ds ++ gs)).all (· ≤ reachBytes) = true := hsz0
  have hval : ∀ (j : Nat) t v, Try.f5.params[j]? = some t → args[j]? = some v → Value.okWide Try.prog W .any base t v := hval0
  have hW' := hW
  obtain ⟨p, q, hA0, hV, rfl, hfz, hnd⟩ := hW
  have hA : DataW.TrodAll enc Try.prog W 0 (fun _ => true) true Try.f5.params.toList args.toList ds p := hA0
  rw [Try.params5] at hA hval hsz
  obtain ⟨v0, vs0, d0, ds0, p0, q0, hargs, rfl, rfl, h0, r0⟩ := trodAll_cons hA
  obtain ⟨v1, vs1, d1, ds1, p1, q1, rfl, rfl, rfl, h1, r1⟩ := trodAll_cons r0
  obtain ⟨v2, vs2, d2, ds2, p2, q2, rfl, rfl, rfl, h2, r2⟩ := trodAll_cons r1
  obtain ⟨rfl, rfl, rfl⟩ := trodAll_nil r2
  obtain rfl : args = #[v0, v1, v2] := by cases args; simp_all
  obtain ⟨rfl, rfl⟩ := trodVars_none hV
  obtain ⟨a0, len0, cap0, rfl⟩ := okWide_slice Try.underlying22 (hval 0 22 v0 rfl rfl)
  have k0 := h0
  have lt0 : ∀ x ∈ p0, x.block < W.heap.size := by obtain ⟨m, hm⟩ := k0; exact DataW.trod_lt m _ _ _ hm
  obtain ⟨z0, w0⟩ := h0.elim (fun _ hf => open_list hf hsz 0 rfl rfl)
  obtain ⟨a1, rfl, rfl, rfl, w1⟩ := open_int Try.underlying5 (hval 1 5 v1 rfl rfl) h1
  obtain ⟨a2, rfl, rfl, rfl, w2⟩ := open_int Try.underlying3 (hval 2 3 v2 rfl rfl) h2
  clear hA0 hval0
  refine (bytes_walk _ z0 a1 a2 (byte_of w1) W w0).mono fun e W' ⟨he, bel⟩ => ?_
  subst he
  exact ⟨_, rfl, _, _, _, [], _, [], hW', trodAll_mk1 (shut_bool Try.underlying4 _), (trodAll_cons_mk (Below.trod meanBytes_laidOut (by kernel_rfl) (of_decide_eq_true (by kernel_rfl)) k0 bel lt0) (trodAll_cons_mk (shut_int Try.underlying5 w1) (trodAll_cons_mk (shut_int Try.underlying3 w2) trodAll_mk0))), rfl, bel.frame _, fun h => by cases h⟩

/-- THE STATEMENT. -/
theorem meanBytes_holds : Rows.MeanBytesSaid :=
  OpenClaim.holds_of_wide 5 Try.f5 rfl rfl rfl rfl rfl rfl rfl ⟨rfl, rfl, rfl, rfl, rfl⟩ rfl rfl rfl rfl rfl (by kernel_rfl) Try.func5 (by kernel_rfl)
    (of_decide_eq_true (by kernel_rfl)) (by unfold Func.isWrapper; first | (rw [if_pos (by decide +kernel)]; kernel_rfl) | (rw [if_neg (by decide +kernel)]; exact ⟨rfl, rfl⟩))
    (fun os started H enc _ => meanBytes_lifted os started H enc)
#print axioms meanBytes_holds
end Go.Proofs.Ytchbjokcnpcgcaa
