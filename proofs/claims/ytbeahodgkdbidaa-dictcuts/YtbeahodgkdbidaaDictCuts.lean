/-
  DictCuts: a dictionary's bytes that end too early, or go on, are no dictionary, and the fault tells where. For every list of texts, every place and every text behind.
-/
import Derived.Test.YtbeahodgkdbidaaTold
import Derived.ShutString
import Derived.ChangeOld
import Derived.SizedLaws
namespace Go.Proofs.Ytbeahodgkdbidaa
open Go.ChangeShapes Go.WideShapes Go.ChangeAt Go.RowKit
open Go.ChangeMaps (open_string shut_string)

set_option maxRecDepth 20000 in
set_option maxHeartbeats 4000000 in
theorem cuts_walk (v : Value) (L : List ByteArray) (k : Int) (s : ByteArray) (hs47 : s.size ≤ 140737488351232) (w : World) (h : ListIn w v L) :
    Calls Try.prog 8 #[v, .int .i64 k, .string s] w fun e w' => e = .returned (.bool true) ∧ Below w.heap.size w w' := by
  have H := hid h
  clear h
  by_cases hf : FewL L
  · have hd1 : fewB L = true := decide_eq_true hf
    have hsz := hf.sizes
    by_cases hs0 : s.size = 0
    · obtain rfl := empty_size hs0
      go_enter Try.func8, Try.ntmps8
      go_wp2_with (first
        | (go_at_call 9; refine (few_any H.out).mono ?_; rintro e w1 ⟨rfl, rfl⟩; rw [hd1])
        | (go_at_call 10; refine (alive_any _).mono ?_; rintro e w2 ⟨rfl, hb2⟩))
      go_ret
      exact ⟨rfl, hb2⟩
    have hse := text_some hs0
    by_cases hs : s.size ≤ 50
    · rcases fine_or_bad L with hL | ⟨c, a0, hL⟩
      · have HF := hid hL
        have HBD := hid (Fine.bounds hL)
        clear hL hsz hf
        have hE : (enc L).size ≤ 4505 := by
          rw [enc_size]
          have := vlen_five L.length (by have := HBD.out.1; omega)
          have := HBD.out.2.2
          omega
        have hE1 : 1 ≤ (enc L).size := by rw [enc_size]; have := vlen_pos L.length; omega
        have hene := text_some (s := enc L) (by omega)
        obtain ⟨j, hj, hjk⟩ := round_in k (enc L).size hE1 (by omega)
        obtain ⟨a, hcut, haj⟩ := cut_short L (Nat.lt_of_le_of_lt HBD.out.1 (by decide)) HBD.out.2.1 j hj
        have hmore := cut_more L (Nat.lt_of_le_of_lt HBD.out.1 (by decide)) HBD.out.2.1 s (by omega)
        have HC := hid hcut
        have HM := hid hmore
        clear hcut hmore
        have hz1 : Hid (((enc L).extract 0 j).size ≤ 1000000) := by
          show _ ≤ _
          rw [← nums_length, nums_first, List.length_take, nums_length]; omega
        have hz2 : Hid ((enc L ++ s).size ≤ 1000000) := by
          show _ ≤ _
          rw [← nums_length, nums_append, List.length_append, nums_length, nums_length]; omega
        have HBy := hid (fun (w : World) (B p : Nat) (hd : DictAt w B p L) => bytes_any hd HBD.out.1 HBD.out.2.1 (Nat.le_trans HBD.out.2.2 (by decide)))
        generalize enc L = b at *
        go_enter Try.func8, Try.ntmps8
        go_wp2_with (first
          | (go_at_call 9; refine (few_any H.out).mono ?_; rintro e w1 ⟨rfl, rfl⟩; rw [hd1])
          | (go_at_call 10; refine (alive_any _).mono ?_; rintro e w2 ⟨rfl, hb2⟩; have H2 := hid (H.out.below hb2))
          | (go_at_call 30; refine (make_fine H2.out.1 HF.out).mono ?_; rintro e w3 ⟨p, rfl, hd, hb3⟩; have HD := hid hd; have hw3 := hid (below_more hb2 hb3))
          | (go_at_call 18; refine (HBy.out _ _ _ HD.out).mono ?_; rintro e w4 ⟨rfl, hb4⟩; have hw4 := hid (below_more hw3.out hb4); clear hd hb2 hb3 hb4)
          | (have _h := l2; go_at_call 24; refine (load_err (b ++ s) hz2.out (by rw [HM.out]; simp)).mono ?_; rintro e w7 ⟨rfl, hb7⟩; rw [HM.out]; have q0 := keeps hb7 _ _ (pair_at w6 2 a).1; have q1 := keeps hb7 _ _ (pair_at w6 2 a).2; have hw7 := hid (below_more (hw6.out.alloc hw6.out.size _) hb7))
          | (go_at_call 24; refine (load_err (b.extract 0 j) hz1.out (by rw [HC.out]; simp)).mono ?_; rintro e w5 ⟨rfl, hb5⟩; rw [HC.out]; have hw5 := hid (below_more hw4.out hb5); have l2 : True := trivial)
          | (go_at_call 31; refine (fault_of 2 a _).mono ?_; rintro e w6 ⟨rfl, hb6⟩; have hw6 := hid (below_more hw5.out hb6))
          | (go_at_call 14; refine (told_same 13 b.size (by decide) _).mono ?_; rintro e w8 ⟨rfl, hb8⟩; have hw8 := hid (below_more hw7.out hb8)))
        go_ret
        exact ⟨rfl, hw8.out⟩
      · go_enter Try.func8, Try.ntmps8
        go_wp2_with (first
          | (go_at_call 9; refine (few_any H.out).mono ?_; rintro e w1 ⟨rfl, rfl⟩; rw [hd1])
          | (go_at_call 10; refine (alive_any _).mono ?_; rintro e w2 ⟨rfl, hb2⟩; have H2 := hid (H.out.below hb2))
          | (go_at_call 30; refine (make_bad H2.out.1 hsz.1 (fun s hs => by have := hsz.2 s hs; omega) hL).mono ?_; rintro e w3 ⟨rfl, hb3⟩))
        go_ret
        exact ⟨rfl, below_more hb2 hb3⟩
    · go_enter Try.func8, Try.ntmps8
      go_wp2_with (first
        | (go_at_call 9; refine (few_any H.out).mono ?_; rintro e w1 ⟨rfl, rfl⟩; rw [hd1])
        | (go_at_call 10; refine (alive_any _).mono ?_; rintro e w2 ⟨rfl, hb2⟩))
      go_ret
      exact ⟨rfl, hb2⟩
  · have hd1 : fewB L = false := decide_eq_false hf
    go_enter Try.func8, Try.ntmps8
    go_wp2_with (first
      | (go_at_call 9; refine (few_any H.out).mono ?_; rintro e w1 ⟨rfl, rfl⟩; rw [hd1])
      | (go_at_call 10; refine (alive_any _).mono ?_; rintro e w2 ⟨rfl, hb2⟩))
    go_ret
    exact ⟨rfl, hb2⟩

set_option linter.unusedVariables false
theorem dictCuts_own : ownKnob Try.prog.godebug = none := by kernel_rfl

theorem dictCuts_laidOut : laidOutB Try.prog = true := by kernel_rfl

set_option maxRecDepth 100000 in
theorem dictCuts_lifted (os : Os) (started : os.Started) (H : Type) (enc : TypeId × Value → H) :
    ReturnsInHanded {} Try.checked os 8 .any (Rows.dictCutsSpec.pre6 enc Try.prog Try.f8 Rows.dictCutsRow.domain false) (Rows.dictCutsSpec.post enc Try.prog Try.f8 false true false false) := by
  refine returnsInHanded_of_change_sized (C := Try.checked) dictCuts_own started (by kernel_rfl) Try.func8
    (ChangeSpec.witness6 (enc := enc) (C := Try.checked) false ⟨#[], #[.slice none 0 0, .int .i64 0, .string ByteArray.empty], []⟩ 8 (by kernel_rfl) (by kernel_rfl) (by kernel_rfl) (by kernel_rfl)) ?_
  intro W base args ds gs before hval0 hW hcnd hsz0 _
  have hsz : (DataW.weightsEach Try.prog (Try.f8.params.toList ++ Rows.dictCutsSpec.plain.varTypes Try.prog) (ds ++ gs)).all (· ≤ reachBytes) = true := hsz0
  have hval : ∀ (j : Nat) t v, Try.f8.params[j]? = some t → args[j]? = some v → Value.okWide Try.prog W .any base t v := hval0
  have hW' := hW
  obtain ⟨p, q, hA0, hV, rfl, hfz, hnd⟩ := hW
  have hA : DataW.TrodAll enc Try.prog W 0 (fun _ => true) true Try.f8.params.toList args.toList ds p := hA0
  rw [Try.params8] at hA hval hsz
  obtain ⟨v0, vs0, d0, ds0, p0, q0, hargs, rfl, rfl, h0, r0⟩ := trodAll_cons hA
  obtain ⟨v1, vs1, d1, ds1, p1, q1, rfl, rfl, rfl, h1, r1⟩ := trodAll_cons r0
  obtain ⟨v2, vs2, d2, ds2, p2, q2, rfl, rfl, rfl, h2, r2⟩ := trodAll_cons r1
  obtain ⟨rfl, rfl, rfl⟩ := trodAll_nil r2
  obtain rfl : args = #[v0, v1, v2] := by cases args; simp_all
  obtain ⟨rfl, rfl⟩ := trodVars_none hV
  obtain ⟨a0, len0, cap0, rfl⟩ := okWide_slice Try.underlying22 (hval 0 22 v0 rfl rfl)
  have k0 := h0
  have lt0 : ∀ x ∈ p0, x.block < W.heap.size := by obtain ⟨m, hm⟩ := k0; exact DataW.trod_lt m _ _ _ hm
  obtain ⟨z0, w0⟩ := h0.elim (fun _ hf => open_list hf hsz 0 rfl rfl)
  obtain ⟨a1, rfl, rfl, rfl, w1⟩ := open_int Try.underlying3 (hval 1 3 v1 rfl rfl) h1
  obtain ⟨a2, rfl, rfl, rfl, w2⟩ := open_string Try.underlying9 (hval 2 9 v2 rfl rfl) h2
  clear hA0 hval0
  have s2 : a2.size ≤ 140737488351232 := by have h := sized_string hsz (j := 2) (t := 9) rfl rfl; rw [Array.length_toList] at h; exact h
  refine (cuts_walk _ z0 a1 a2 s2 W w0).mono fun e W' ⟨he, bel⟩ => ?_
  subst he
  exact ⟨_, rfl, _, _, _, [], _, [], hW', trodAll_mk1 (shut_bool Try.underlying4 _), (trodAll_cons_mk (Below.trod dictCuts_laidOut (by kernel_rfl) (of_decide_eq_true (by kernel_rfl)) k0 bel lt0) (trodAll_cons_mk (shut_int Try.underlying3 w1) (trodAll_cons_mk (shut_string Try.underlying9 w2) trodAll_mk0))), rfl, bel.frame _, fun h => by cases h⟩

/-- THE STATEMENT. -/
theorem dictCuts_holds : Rows.DictCutsSaid :=
  OpenClaim.holds_of_wide 8 Try.f8 rfl rfl rfl rfl rfl rfl rfl ⟨rfl, rfl, rfl, rfl, rfl⟩ rfl rfl rfl rfl rfl (by kernel_rfl) Try.func8 (by kernel_rfl)
    (of_decide_eq_true (by kernel_rfl)) (by unfold Func.isWrapper; first | (rw [if_pos (by decide +kernel)]; kernel_rfl) | (rw [if_neg (by decide +kernel)]; exact ⟨rfl, rfl⟩))
    (fun os started H enc _ => dictCuts_lifted os started H enc)
#print axioms dictCuts_holds
end Go.Proofs.Ytbeahodgkdbidaa
