/-
  MeanFirst: the first that is wrong is told, from the left: a token that is none, or that there is too much. For every list of texts, every bound, every list of numbers.
  No condition: whatever the input, in whatever memory; the arguments read as before.
-/
import Derived.Test.YtchbjokcnpcgcaaAlive16
import Derived.Test.YtchbjokcnpcgcaaInts
import Derived.ChangeOld
import Derived.SizedLaws
namespace Go.Proofs.Ytchbjokcnpcgcaa
open Go.ChangeShapes Go.WideShapes Go.ChangeAt Go.RowKit

/-- A list of numbers that came in, and its room. -/
theorem open_numbersC {H : Type} {enc : TypeId × Value → H} {W : World} {base fuel : Nat} {spare : Nat → Bool} {held : Bool} {a : Option Addr} {len cap : Nat} {x : DataW H × List MemPlace}
    (h : DataW.trod enc Try.prog W base spare held fuel 23 [.slice a len cap] = some x) : ∃ z, IsInts W a len z ∧ len ≤ cap := by
  obtain ⟨z, hz⟩ := open_numbers h
  refine ⟨z, hz, ?_⟩
  rcases open_ints Try.underlying23 Try.underlying3 Try.cellsInt h with ⟨hcs, _⟩ | ⟨ad, l, c, zs, hcs, _, hl, _⟩
  · simp only [List.cons.injEq, Value.slice.injEq, and_true] at hcs
    obtain ⟨_, rfl, rfl⟩ := hcs
    exact Nat.le_refl _
  · simp only [List.cons.injEq, Value.slice.injEq, and_true] at hcs
    obtain ⟨_, rfl, rfl⟩ := hcs
    exact hl

/-- A beginning of a list of numbers, by its slice. -/
theorem reads_begin {w : World} {a : Option Addr} {len cap c2 : Nat} {xs : List Int} {i : Nat} (h : Reads w (.slice a len cap) (nats xs)) (hi : i ≤ xs.length) : Reads w (.slice a i c2) (nats (xs.take i)) := by
  obtain ⟨a', c', e, ha⟩ := h
  simp only [Value.slice.injEq] at e
  obtain ⟨rfl, _, _⟩ := e
  have hl : (xs.take i).length = i := by rw [List.length_take]; omega
  refine ⟨a, c2, by rw [nats_length, hl], ?_⟩
  rcases ha with h0 | ⟨g, o, rfl, hg, hc⟩
  · rw [nats_length] at h0
    exact .inl (by rw [nats_length, hl]; omega)
  · refine .inr ⟨g, o, rfl, hg, fun j hj => ?_⟩
    rw [nats_length, hl] at hj
    rw [hc j (by rw [nats_length]; omega), nats_at _ j (by omega), nats_at _ j (by omega), List.getElem_take]

/-- What a beginning tells: nothing is wrong yet, or the same as of all. -/
theorem begin_math (P : List (List Nat)) (m : Nat) (zs : List Int) (i : Nat) (h : (meanR P m [] (zs.take i)).2 ≠ 0) : (meanR P m [] zs).2 = (meanR P m [] (zs.take i)).2 := by
  have := meanR_first P m (zs.take i) (zs.drop i) [] h
  rw [List.take_append_drop] at this
  rw [this]

set_option maxRecDepth 20000 in
set_option maxHeartbeats 8000000 in
theorem first_walk (v : Value) (L : List ByteArray) (n : Int) (a : Option Addr) (len cap : Nat) (z : Nat → Int) (g1 : -9223372036854775808 ≤ n) (g2 : n ≤ 9223372036854775807) (w : World) (h : ListIn w v L) (hin : IsInts w a len z ∧ len ≤ cap) :
    Calls Try.prog 6 #[v, .int .i64 n, .slice a len cap] w fun e w' => e = .returned (.bool true) ∧ Below w.heap.size w w' := by
  have H := hid h
  clear h
  by_cases hfits : Fits L (⟨#[]⟩)
  · obtain ⟨_, h400, hF⟩ := id hfits
    have HF := hid hF
    have hl100 := hF.1
    have HFits := hid hfits
    clear hF hfits
    obtain ⟨hin, hcap⟩ := hin
    by_cases h60 : len ≤ 200
    ·
      have hd6 : decide ((200 : Int) < (len : Int)) = false := decide_eq_false (by omega)
      have hd62 : decide (200 < len) = false := decide_eq_false (by omega)
      obtain ⟨zs, hzs⟩ : ∃ zs, zs = (List.range len).map z := ⟨_, rfl⟩
      have hzl : zs.length = len := by rw [hzs]; simp
      have HR := hid (isInts_reads (cap := cap) hin)
      rw [← hzs] at HR
      have HZ := hid hzl
      have HZL : Hid (zs.length ≤ 100000) := by show _ ≤ _; omega
      obtain ⟨E, hE⟩ : ∃ E, E = (ofR L n zs).2 := ⟨_, rfl⟩
      obtain ⟨b, hb⟩ : ∃ b, b = bytesOf (ofR L n zs).1 := ⟨_, rfl⟩
      have HM : Hid ((Value.tuple #[.string (bytesOf (ofR L n zs).1), .int .i64 ((ofR L n zs).2 : Int)]) = .tuple #[.string b, .int .i64 (E : Int)]) := by
        show _ = _
        rw [← hE, ← hb]
      have HE := hid hE
      clear hin hzs hzl hE hb
      go_enter Try.func6, Try.ntmps6
      go_wp2_with (first
        | (go_at_call 8; refine (dict_fits H.out HFits.out).mono ?_; rintro e w1 ⟨p, rfl, hd1, hb1⟩; have HD1 := hid hd1; have H1 := hid (H.out.below hb1); have HB1 := hid hb1; have HR1 := hid (HR.out.below hb1); clear hd1 hb1)
        | (go_at_call 9; refine (alive_16 _).mono ?_; rintro e w2 ⟨rfl, hb2⟩; have H2 := hid (H1.out.below hb2); have HD2 := hid (HD1.out.below hb2); have HB2 := hid (HB1.out.trans (hb2.mono HB1.out.size)); have HR2 := hid (HR1.out.below hb2); clear hb2)
        | (go_at_call 11; refine (of_any HD2.out HF.out HR2.out HZL.out n g1 g2).mono ?_; rintro e w3 ⟨rfl, hb3⟩; rw [HM.out]; have HD3 := hid (HD2.out.below hb3); have HR3 := hid (HR2.out.below hb3); have HB3 := hid (below_more HB2.out hb3); clear hb3))
      go_loopw [42] (fun vi wr => ∃ i : Nat, vi = .int .i64 i ∧ i ≤ len ∧ Hid ((meanR (L.map nums) (max n 0).toNat [] (zs.take i)).2 = 0) ∧ Hid (Below w3.heap.size w3 wr)) (fun vi _ => len - (intOf vi).toNat)
      case atStart => exact ⟨0, rfl, by omega, by show _ = _; rw [List.take_zero]; rfl, Below.refl _ _⟩
      case round =>
        obtain ⟨i, rfl, hi, hok, hbl⟩ := hrel
        by_cases hin : i < len
        · have hdi : decide ((i : Int) < (len : Int)) = true := decide_eq_true (by omega)
          have hwi : IntKind.i64.wrap ((i : Int) + 1) = ((i + 1 : Nat) : Int) := by rw [IntKind.wrap_i64]; omega
          obtain ⟨F, hF⟩ : ∃ F, F = (ofR L n (zs.take (i + 1))).2 := ⟨_, rfl⟩
          obtain ⟨c, hc⟩ : ∃ c, c = bytesOf (ofR L n (zs.take (i + 1))).1 := ⟨_, rfl⟩
          have HMi : Hid ((Value.tuple #[.string (bytesOf (ofR L n (zs.take (i + 1))).1), .int .i64 ((ofR L n (zs.take (i + 1))).2 : Int)]) = .tuple #[.string c, .int .i64 (F : Int)]) := by
            show _ = _
            rw [← hF, ← hc]
          by_cases h0 : F = 0
          · have HOK : Hid ((meanR (L.map nums) (max n 0).toNat [] (zs.take (i + 1))).2 = 0) := by
              show _ = _
              exact hF.symm.trans h0
            subst h0
            clear hF hc hok
            go_wp2_with (go_at_call 11; refine (of_any (HD3.out.below hbl.out) HF.out (reads_begin (i := i + 1) (HR3.out.below hbl.out) (by rw [HZ.out]; omega)) (by rw [List.length_take, HZ.out]; omega) n g1 g2).mono ?_; rintro e w4 ⟨rfl, hb4⟩; rw [HMi.out]; have HB4 := hid (hbl.out.trans (hb4.mono hbl.out.size)); clear hb4)
            go_roundw
            case rel => exact ⟨i + 1, by go_num, by omega, HOK, HB4⟩
            case measure => simp [intOf]; omega
          · have hEF : E = F := by
              rw [HE.out, hF]
              exact begin_math (L.map nums) _ zs (i + 1) (by rw [hF] at h0; exact h0)
            subst hEF
            have hne : ((E : Int) != 0) = true := by simp [bne, h0]
            clear hF hc hok
            go_wp2_with (go_at_call 11; refine (of_any (HD3.out.below hbl.out) HF.out (reads_begin (i := i + 1) (HR3.out.below hbl.out) (by rw [HZ.out]; omega)) (by rw [List.length_take, HZ.out]; omega) n g1 g2).mono ?_; rintro e w4 ⟨rfl, hb4⟩; rw [HMi.out]; have HB4 := hid (hbl.out.trans (hb4.mono hbl.out.size)); clear hb4)
            all_goals refine bodyPost_ret (v := .bool true) (by simp [results, Try.results6, go_sem]) rfl ⟨rfl, below_more HB3.out (HB4.out)⟩
        · obtain rfl : i = len := by omega
          have hz : E = 0 := by
            have h := hok.out
            rw [List.take_of_length_le (by rw [HZ.out]; exact Nat.le_refl _)] at h
            rw [HE.out]
            exact h
          subst hz
          have hdi : decide ((i : Int) < (i : Int)) = false := decide_eq_false (by omega)
          clear hok
          go_wp2
          all_goals refine bodyPost_ret (v := .bool true) (by simp [results, Try.results6, go_sem]) rfl ⟨rfl, below_more HB3.out hbl.out⟩
    ·
      have hd6 : decide ((200 : Int) < (len : Int)) = true := decide_eq_true (by omega)
      have hd62 : decide (200 < len) = true := decide_eq_true (by omega)
      go_enter Try.func6, Try.ntmps6
      go_wp2_with (first
        | (go_at_call 8; refine (dict_fits H.out HFits.out).mono ?_; rintro e w1 ⟨p, rfl, hd1, hb1⟩; have HD1 := hid hd1; have H1 := hid (H.out.below hb1); have HB1 := hid hb1; clear hd1 hb1)
        | (go_at_call 9; refine (alive_16 _).mono ?_; rintro e w2 ⟨rfl, hb2⟩))
      go_ret
      exact ⟨rfl, below_more HB1.out hb2⟩
  · have HFits := hid hfits
    clear hfits
    go_enter Try.func6, Try.ntmps6
    go_wp2_with (first
      | (go_at_call 8; refine (dict_no H.out HFits.out).mono ?_; rintro e w1 ⟨rfl, rfl⟩)
      | (go_at_call 9; refine (alive_16 _).mono ?_; rintro e w2 ⟨rfl, hb2⟩))
    go_ret
    exact ⟨rfl, hb2⟩

set_option linter.unusedVariables false
theorem meanFirst_own : ownKnob Try.prog.godebug = none := by kernel_rfl

theorem meanFirst_laidOut : laidOutB Try.prog = true := by kernel_rfl

set_option maxRecDepth 100000 in
theorem meanFirst_lifted (os : Os) (started : os.Started) (H : Type) (enc : TypeId × Value → H) :
    ReturnsInHanded {} Try.checked os 6 .any (Rows.meanFirstSpec.pre6 enc Try.prog Try.f6 Rows.meanFirstRow.domain false) (Rows.meanFirstSpec.post enc Try.prog Try.f6 false true false false) := by
  refine returnsInHanded_of_change_sized (C := Try.checked) meanFirst_own started (by kernel_rfl) Try.func6
    (ChangeSpec.witness6 (enc := enc) (C := Try.checked) false ⟨#[], #[.slice none 0 0, .int .i64 0, .slice none 0 0], []⟩ 8 (by kernel_rfl) (by kernel_rfl) (by kernel_rfl) (by kernel_rfl)) ?_
  intro W base args ds gs before hval0 hW hcnd hsz0 _
  have hsz : (DataW.weightsEach Try.prog (Try.f6.params.toList ++ Rows.meanFirstSpec.plain.varTypes Try.prog) (ds ++ gs)).all (· ≤ reachBytes) = true := hsz0
  have hval : ∀ (j : Nat) t v, Try.f6.params[j]? = some t → args[j]? = some v → Value.okWide Try.prog W .any base t v := hval0
  have hW' := hW
  obtain ⟨p, q, hA0, hV, rfl, hfz, hnd⟩ := hW
  have hA : DataW.TrodAll enc Try.prog W 0 (fun _ => true) true Try.f6.params.toList args.toList ds p := hA0
  rw [Try.params6] at hA hval hsz
  obtain ⟨v0, vs0, d0, ds0, p0, q0, hargs, rfl, rfl, h0, r0⟩ := trodAll_cons hA
  obtain ⟨v1, vs1, d1, ds1, p1, q1, rfl, rfl, rfl, h1, r1⟩ := trodAll_cons r0
  obtain ⟨v2, vs2, d2, ds2, p2, q2, rfl, rfl, rfl, h2, r2⟩ := trodAll_cons r1
  obtain ⟨rfl, rfl, rfl⟩ := trodAll_nil r2
  obtain rfl : args = #[v0, v1, v2] := by cases args; simp_all
  obtain ⟨rfl, rfl⟩ := trodVars_none hV
  obtain ⟨a0, len0, cap0, rfl⟩ := okWide_slice Try.underlying22 (hval 0 22 v0 rfl rfl)
  have k0 := h0
  have lt0 : ∀ x ∈ p0, x.block < W.heap.size := by obtain ⟨m, hm⟩ := k0; exact DataW.trod_lt m _ _ _ hm
  obtain ⟨z0, w0⟩ := h0.elim (fun _ hf => open_list hf hsz 0 rfl rfl)
  obtain ⟨a1, rfl, rfl, rfl, w1⟩ := open_int Try.underlying3 (hval 1 3 v1 rfl rfl) h1
  obtain ⟨a2, len2, cap2, rfl⟩ := okWide_slice Try.underlying23 (hval 2 23 v2 rfl rfl)
  have k2 := h2
  have lt2 : ∀ x ∈ p2, x.block < W.heap.size := by obtain ⟨m, hm⟩ := k2; exact DataW.trod_lt m _ _ _ hm
  obtain ⟨z2, w2⟩ := h2.elim (fun _ hf => open_numbersC hf)
  clear hA0 hval0
  refine (first_walk _ z0 a1 a2 len2 cap2 z2 (word_low w1) (word_of w1) W w0 w2).mono fun e W' ⟨he, bel⟩ => ?_
  subst he
  exact ⟨_, rfl, _, _, _, [], _, [], hW', trodAll_mk1 (shut_bool Try.underlying4 _), (trodAll_cons_mk (Below.trod meanFirst_laidOut (by kernel_rfl) (of_decide_eq_true (by kernel_rfl)) k0 bel lt0) (trodAll_cons_mk (shut_int Try.underlying3 w1) (trodAll_cons_mk (Below.trod meanFirst_laidOut (by kernel_rfl) (of_decide_eq_true (by kernel_rfl)) k2 bel lt2) trodAll_mk0))), rfl, bel.frame _, fun h => by cases h⟩

/-- THE STATEMENT. -/
theorem meanFirst_holds : Rows.MeanFirstSaid :=
  OpenClaim.holds_of_wide 6 Try.f6 rfl rfl rfl rfl rfl rfl rfl ⟨rfl, rfl, rfl, rfl, rfl⟩ rfl rfl rfl rfl rfl (by kernel_rfl) Try.func6 (by kernel_rfl)
    (of_decide_eq_true (by kernel_rfl)) (by unfold Func.isWrapper; first | (rw [if_pos (by decide +kernel)]; kernel_rfl) | (rw [if_neg (by decide +kernel)]; exact ⟨rfl, rfl⟩))
    (fun os started H enc _ => meanFirst_lifted os started H enc)
#print axioms meanFirst_holds
end Go.Proofs.Ytchbjokcnpcgcaa
