/-
  DictFinds: in every dictionary each phrase is found at its id and its id tells it; a text that is no phrase is not found. For every list of texts and every text.
-/
import Derived.Test.YtbeahodgkdbidabHelps
import Derived.ShutString
import Derived.ChangeOld
import Derived.SizedLaws
namespace Go.Proofs.Ytbeahodgkdbidab
open Go.ChangeShapes Go.WideShapes Go.ChangeAt Go.RowKit
open Go.ChangeMaps (open_string shut_string)

set_option maxRecDepth 20000 in
set_option maxHeartbeats 4000000 in
theorem finds_walk (v : Value) (L : List ByteArray) (s : ByteArray) (hs47 : s.size ≤ 140737488351232) (w : World) (h : ListIn w v L) :
    Calls Try.prog 3 #[v, .string s] w fun e w' => e = .returned (.bool true) ∧ Below w.heap.size w w' := by
  have H := hid h
  by_cases hf : FewL L
  · have hd1 : fewB L = true := decide_eq_true hf
    by_cases hs : s.size ≤ 60
    · have hsz := hf.sizes
      rcases fine_or_bad L with hL | ⟨c, a0, hL⟩
      · have HF := hid hL
        have hall := (fine_iff L).1 hL
        have hnd := hid hall.2.2.2
        obtain ⟨⟨a, ca, rfl, ha⟩, _, _⟩ := h
        rw [strs_length] at *
        have hl := hL.1
        clear hall hL
        have HA := hid ha
        clear ha hsz hf
        generalize hn : L.length = n at HA hl H
        have HN := hid hn
        clear hn
        go_enter Try.func3, Try.ntmps3
        go_wp2_with (first
          | (go_at_call 5; refine (few_any H.out).mono ?_; rintro e w1 ⟨rfl, rfl⟩; rw [hd1])
          | (go_at_call 6; refine (alive_any _).mono ?_; rintro e w2 ⟨rfl, hb2⟩; have H2 := hid (H.out.below hb2))
          | (go_at_call 7; refine (make_fine H2.out.1 HF.out).mono ?_; rintro e w3 ⟨p, rfl, hd, hb3⟩; have HD := hid hd; have hw3 := hid (below_more hb2 hb3)))
        clear hd hb2 hb3
        have hDn := hid (HD.out.told)
        go_loopw [36] (fun vi wr => ∃ i : Nat, vi = .int .i64 i ∧ i ≤ n ∧ wr = w3) (fun vi _ => n - (intOf vi).toNat)
        case atStart => exact ⟨0, rfl, by omega, rfl⟩
        case round =>
          obtain ⟨i, rfl, hi, rfl⟩ := hrel
          have hLn : L.length ≤ 1000000 := by rw [HN.out]; omega
          have HLN := hid hLn
          clear hLn
          by_cases hin : i < n
          · rcases HA.out with h | ⟨gb, o, rfl, hgb, hcell⟩
            · omega
            have hiL : i < L.length := by rw [HN.out]; exact hin
            have hcb : wr.cell? ⟨gb, o + i, none⟩ = some (.string (L[i]'hiL)) := by rw [hw3.out.cell (p := ⟨gb, o + i, none⟩) hgb, hcell i hin, strs_at]
            clear hcell
            have hx' : (decide ((0 : Int) ≤ (i : Int) ∧ (i : Int) < (n : Int))) = true := decide_eq_true ⟨by omega, by omega⟩
            have hat := hid (at_in HD.out HLN.out i hiL)
            have hfi := hid (find_in HD.out HLN.out (First.of_nodup hnd.out i hiL))
            generalize L[i]'hiL = x at hcb hat hfi
            clear hiL
            go_wp2_with (first
              | (go_at_call 8; refine (hat.out).mono ?_; rintro e w4 ⟨rfl, rfl⟩)
              | (go_at_call 9; refine (hfi.out).mono ?_; rintro e w5 ⟨rfl, rfl⟩))
            go_roundw
            case rel => exact ⟨i + 1, by go_num, by omega, by first | rfl | trivial⟩
            case measure => simp [intOf]; omega
          · obtain rfl : i = n := by omega
            rcases first_or L s with hm | ⟨k, hk⟩
            · go_wp2_with (first
                | (go_at_call 9; refine (find_out HD.out HLN.out hm).mono ?_; rintro e w4 ⟨rfl, rfl⟩)
                | (have _h := later; go_at_call 8; refine (at_out HD.out HLN.out i (.inr (by rw [HN.out]; exact Int.le_refl _))).mono ?_; rintro e w5 ⟨rfl, rfl⟩)
                | (go_at_call 8; refine (at_out HD.out HLN.out (-1) (.inl (by decide))).mono ?_; rintro e w5 ⟨rfl, rfl⟩; have later : True := trivial)
                | (go_at_call 10; refine (all_any HD.out HLN.out).mono ?_; rintro e w6 ⟨v', rfl, ho6, hb6⟩; obtain ⟨a6, c6, rfl⟩ := ownsRow_slice ho6; rw [HN.out]))
              go_ret
              exact ⟨rfl, below_more hw3.out hb6⟩
            · have hkL : k < i := by obtain ⟨h, _⟩ := hk; rw [← HN.out]; exact h
              rcases HA.out with h | ⟨gb, o, rfl, hgb, hcell⟩
              · omega
              have hks : L[k]'(by rw [HN.out]; exact hkL) = s := by obtain ⟨_, h, _⟩ := hk; exact h
              have hcb : wr.cell? ⟨gb, o + k, none⟩ = some (.string s) := by rw [hw3.out.cell (p := ⟨gb, o + k, none⟩) hgb, hcell k hkL, strs_at _ _ (by rw [HN.out]; exact hkL), hks]
              clear hcell hks
              have hx' : (decide ((0 : Int) ≤ (k : Int) ∧ (k : Int) < (i : Int))) = true := decide_eq_true ⟨by omega, by omega⟩
              go_wp2_with (first
                | (go_at_call 9; refine (find_in HD.out HLN.out hk).mono ?_; rintro e w4 ⟨rfl, rfl⟩)
                | (have _h := later; go_at_call 8; refine (at_out HD.out HLN.out i (.inr (by rw [HN.out]; exact Int.le_refl _))).mono ?_; rintro e w5 ⟨rfl, rfl⟩)
                | (go_at_call 8; refine (at_out HD.out HLN.out (-1) (.inl (by decide))).mono ?_; rintro e w5 ⟨rfl, rfl⟩; have later : True := trivial)
                | (go_at_call 10; refine (all_any HD.out HLN.out).mono ?_; rintro e w6 ⟨v', rfl, ho6, hb6⟩; obtain ⟨a6, c6, rfl⟩ := ownsRow_slice ho6; rw [HN.out]))
              go_ret
              exact ⟨rfl, below_more hw3.out hb6⟩
      · go_enter Try.func3, Try.ntmps3
        go_wp2_with (first
          | (go_at_call 5; refine (few_any H.out).mono ?_; rintro e w1 ⟨rfl, rfl⟩; rw [hd1])
          | (go_at_call 6; refine (alive_any _).mono ?_; rintro e w2 ⟨rfl, hb2⟩; have H2 := hid (H.out.below hb2))
          | (go_at_call 7; refine (make_bad H2.out.1 hsz.1 (fun s hs => by have := hsz.2 s hs; omega) hL).mono ?_; rintro e w3 ⟨rfl, hb3⟩))
        go_ret
        exact ⟨rfl, below_more hb2 hb3⟩
    · go_enter Try.func3, Try.ntmps3
      go_wp2_with (first
        | (go_at_call 5; refine (few_any H.out).mono ?_; rintro e w1 ⟨rfl, rfl⟩; rw [hd1])
        | (go_at_call 6; refine (alive_any _).mono ?_; rintro e w2 ⟨rfl, hb2⟩))
      go_ret
      exact ⟨rfl, hb2⟩
  · have hd1 : fewB L = false := decide_eq_false hf
    go_enter Try.func3, Try.ntmps3
    go_wp2_with (first
      | (go_at_call 5; refine (few_any H.out).mono ?_; rintro e w1 ⟨rfl, rfl⟩; rw [hd1])
      | (go_at_call 6; refine (alive_any _).mono ?_; rintro e w2 ⟨rfl, hb2⟩))
    go_ret
    exact ⟨rfl, hb2⟩

set_option linter.unusedVariables false
theorem dictFinds_own : ownKnob Try.prog.godebug = none := by kernel_rfl

theorem dictFinds_laidOut : laidOutB Try.prog = true := by kernel_rfl

set_option maxRecDepth 100000 in
theorem dictFinds_lifted (os : Os) (started : os.Started) (H : Type) (enc : TypeId × Value → H) :
    ReturnsInHanded {} Try.checked os 3 .any (Rows.dictFindsSpec.pre6 enc Try.prog Try.f3 Rows.dictFindsRow.domain false) (Rows.dictFindsSpec.post enc Try.prog Try.f3 false true false false) := by
  refine returnsInHanded_of_change_sized (C := Try.checked) dictFinds_own started (by kernel_rfl) Try.func3
    (ChangeSpec.witness6 (enc := enc) (C := Try.checked) false ⟨#[], #[.slice none 0 0, .string ByteArray.empty], []⟩ 8 (by kernel_rfl) (by kernel_rfl) (by kernel_rfl) (by kernel_rfl)) ?_
  intro W base args ds gs before hval0 hW hcnd hsz0 _
  have hsz : (DataW.weightsEach Try.prog (Try.f3.params.toList ++ Rows.dictFindsSpec.plain.varTypes Try.prog) (ds ++ gs)).all (· ≤ reachBytes) = true := hsz0
  have hval : ∀ (j : Nat) t v, Try.f3.params[j]? = some t → args[j]? = some v → Value.okWide Try.prog W .any base t v := hval0
  have hW' := hW
  obtain ⟨p, q, hA0, hV, rfl, hfz, hnd⟩ := hW
  have hA : DataW.TrodAll enc Try.prog W 0 (fun _ => true) true Try.f3.params.toList args.toList ds p := hA0
  rw [Try.params3] at hA hval hsz
  obtain ⟨v0, vs0, d0, ds0, p0, q0, hargs, rfl, rfl, h0, r0⟩ := trodAll_cons hA
  obtain ⟨v1, vs1, d1, ds1, p1, q1, rfl, rfl, rfl, h1, r1⟩ := trodAll_cons r0
  obtain ⟨rfl, rfl, rfl⟩ := trodAll_nil r1
  obtain rfl : args = #[v0, v1] := by cases args; simp_all
  obtain ⟨rfl, rfl⟩ := trodVars_none hV
  obtain ⟨a0, len0, cap0, rfl⟩ := okWide_slice Try.underlying22 (hval 0 22 v0 rfl rfl)
  have k0 := h0
  have lt0 : ∀ x ∈ p0, x.block < W.heap.size := by obtain ⟨m, hm⟩ := k0; exact DataW.trod_lt m _ _ _ hm
  obtain ⟨z0, w0⟩ := h0.elim (fun _ hf => open_list hf hsz 0 rfl rfl)
  obtain ⟨a1, rfl, rfl, rfl, w1⟩ := open_string Try.underlying9 (hval 1 9 v1 rfl rfl) h1
  clear hA0 hval0
  have s1 : a1.size ≤ 140737488351232 := by have h := sized_string hsz (j := 1) (t := 9) rfl rfl; rw [Array.length_toList] at h; exact h
  refine (finds_walk _ z0 a1 s1 W w0).mono fun e W' ⟨he, bel⟩ => ?_
  subst he
  exact ⟨_, rfl, _, _, _, [], _, [], hW', trodAll_mk1 (shut_bool Try.underlying4 _), (trodAll_cons_mk (Below.trod dictFinds_laidOut (by kernel_rfl) (of_decide_eq_true (by kernel_rfl)) k0 bel lt0) (trodAll_cons_mk (shut_string Try.underlying9 w1) trodAll_mk0)), rfl, bel.frame _, fun h => by cases h⟩

/-- THE STATEMENT. -/
theorem dictFinds_holds : Rows.DictFindsSaid :=
  OpenClaim.holds_of_wide 3 Try.f3 rfl rfl rfl rfl rfl rfl rfl ⟨rfl, rfl, rfl, rfl, rfl⟩ rfl rfl rfl rfl rfl (by kernel_rfl) Try.func3 (by kernel_rfl)
    (of_decide_eq_true (by kernel_rfl)) (by unfold Func.isWrapper; first | (rw [if_pos (by decide +kernel)]; kernel_rfl) | (rw [if_neg (by decide +kernel)]; exact ⟨rfl, rfl⟩))
    (fun os started H enc _ => dictFinds_lifted os started H enc)
#print axioms dictFinds_holds
end Go.Proofs.Ytbeahodgkdbidab
