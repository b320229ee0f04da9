/-
  DictLoads: of every text of at most 1500 bytes Load tells the dictionary that it is, or where it is none, as the document does; its bytes are the text.
-/
import Derived.Test.YtbeahodgkdbidaaTold
import Derived.Test.YtbeahodgkdbidaaRefs2
import Derived.Test.YtbeahodgkdbidaaBookTexts1
import Derived.ShutString
import Derived.SizedLaws
namespace Go.Proofs.Ytbeahodgkdbidaa
open Go.ChangeShapes Go.WideShapes Go.ChangeAt Go.RowKit
open Go.ChangeMaps (open_string shut_string)

theorem sameTexts_same {w : World} {v u : Value} {xs : List ByteArray} (hv : Reads w v (strs xs)) (hu : Reads w u (strs xs)) (hx : xs.length ≤ 1000000) :
    Calls Try.prog 27 #[v, u] w fun e w' => e = .returned (.bool true) ∧ Below w.heap.size w w' := by
  refine (sameTexts_any hv hu hx hx).mono ?_
  rintro e w' ⟨rfl, hb⟩
  exact ⟨by simp, hb⟩

theorem cutF_zero (b : ByteArray) : ∀ (n p : Nat) (acc : List ByteArray), (cutF b n p acc).2.1 = 0 → (cutF b n p acc).2.2 = 0 := by
  intro n
  induction n with
  | zero =>
    intro p acc
    rw [cutF]
    split
    · simp
    · simp
  | succ n ih =>
    intro p acc
    rw [cutF]
    split
    · rename_i h
      intro h2
      exact absurd h2 h
    · split
      · simp
      · exact ih _ _
theorem cutW_zero (b : ByteArray) (h : (cutW b).2.1 = 0) : cutW b = ((cutW b).1, 0, 0) := by
  have : (cutW b).2.2 = 0 := by
    revert h
    rw [cutW]
    split
    · rename_i h
      intro h2
      exact absurd h2 h
    · exact cutF_zero _ _ _ _
  exact Prod.ext rfl (Prod.ext h this)

set_option maxRecDepth 20000 in
set_option maxHeartbeats 4000000 in
theorem loads_walk (b : ByteArray) (hs47 : b.size ≤ 140737488351232) (w : World) :
    Calls Try.prog 4 #[.string b] w fun e w' => e = .returned (.bool true) ∧ Below w.heap.size w w' := by
  by_cases hb : b.size ≤ 1500
  · have hcodes := hid (cutW_codes b)
    by_cases hc : (cutW b).2.1 = 0
    · have hL := cutW_zero b hc
      have hre := hid (fun w => refLoad_any (w := w) b (by omega))
      have HC := hid hc
      rcases fine_or_bad (cutW b).1 with hF | ⟨c, a, hB⟩
      · have hlo := hid (fun w => load_fine (w := w) b (by omega) hL hF)
        obtain ⟨hen, _⟩ := cut_back b _ hL
        have hbd := Fine.bounds hF
        have hby := hid (fun (w : World) (B p : Nat) (hd : DictAt w B p (cutW b).1) => bytes_any hd hbd.1 hbd.2.1 (Nat.le_trans hbd.2.2 (by decide)))
        rw [hen] at hby
        have hal := hid (fun (w : World) (B p : Nat) (hd : DictAt w B p (cutW b).1) => all_any hd hbd.1)
        have hst := hid (fun (w : World) (v u : Value) (hv : Reads w v (strs (cutW b).1)) (hu : Reads w u (strs (cutW b).1)) => sameTexts_same hv hu hbd.1)
        have HF := hid hF
        clear hL hc hbd hF hen
        go_enter Try.func4, Try.ntmps4
        go_wp2_with (first
          | (go_at_call 10; refine (alive_any _).mono ?_; rintro e w2 ⟨rfl, hb2⟩)
          | (go_at_call 24; refine (hlo.out _).mono ?_; rintro e w3 ⟨p, rfl, hd, hb3⟩; have hw3 := hid (below_more hb2 hb3); have HD := hid hd; clear hd)
          | (go_at_call 29; refine (hre.out _).mono ?_; rintro e w4 ⟨⟨h1, rfl⟩ | ⟨h1, ⟨h2, v, rfl, hr⟩ | ⟨c, a, h2, _⟩⟩, hb4⟩; exact absurd HC.out h1; rotate_left; exact absurd HF.out (not_both h2); have hw4 := hid (below_more hw3.out hb4); have HD4 := hid (HD.out.below hb4); have HR4 := hid hr)
          | (go_at_call 14; refine (told_nil 0 _).mono ?_; rintro e w5 ⟨rfl, rfl⟩)
          | (go_at_call 21; refine (hal.out _ _ _ HD4.out).mono ?_; rintro e w6 ⟨u, rfl, hou, hb6⟩; have hw6 := hid (below_more hw4.out hb6); have HD6 := hid (HD4.out.below hb6); have HR6 := hid (HR4.out.below hb6); have HU6 := hid (ownsRow_reads hou); clear hou)
          | (go_at_call 27; refine (hst.out _ _ _ HU6.out HR6.out).mono ?_; rintro e w7 ⟨rfl, hb7⟩; have hw7 := hid (below_more hw6.out hb7); have HD7 := hid (HD6.out.below hb7))
          | (go_at_call 18; refine (hby.out _ _ _ HD7.out).mono ?_; rintro e w8 ⟨rfl, hb8⟩; have hw8 := hid (below_more hw7.out hb8)))
        go_ret
        exact ⟨rfl, hw8.out⟩
      · have hlo := hid (fun w => load_bad (w := w) b (by omega) hL hB)
        have hcode := hB.code
        have htd := hid (told_same c a (by omega))
        have hc1 : ((c : Int) == 0) = false := beq_false_of_ne (by omega)
        have HB := hid hB
        clear hL hc hB
        go_enter Try.func4, Try.ntmps4
        go_wp2_with (first
          | (go_at_call 10; refine (alive_any _).mono ?_; rintro e w2 ⟨rfl, hb2⟩)
          | (go_at_call 24; refine (hlo.out _).mono ?_; rintro e w3 ⟨rfl, hb3⟩; have hw3 := hid (below_more hb2 hb3))
          | (go_at_call 29; refine (hre.out _).mono ?_; rintro e w4 ⟨⟨h1, rfl⟩ | ⟨h1, ⟨h2, v, rfl, hr⟩ | ⟨c2, a2, h2, rfl⟩⟩, hb4⟩; exact absurd HC.out h1; exact absurd h2 (not_both HB.out); obtain ⟨rfl, rfl⟩ := bad_one HB.out h2; have hw4 := hid (below_more hw3.out hb4))
          | (go_at_call 14; refine (htd.out _).mono ?_; rintro e w5 ⟨rfl, hb5⟩; have hw5 := hid (below_more hw4.out hb5)))
        go_ret
        exact ⟨rfl, hw5.out⟩
    · have hc1 : (((cutW b).2.1 : Int) == 0) = false := beq_false_of_ne (by omega)
      have hle := hid (fun w => load_err (w := w) b (by omega) hc)
      have hre := hid (fun w => refLoad_any (w := w) b (by omega))
      have htd := hid (told_same (cutW b).2.1 (cutW b).2.2 (by omega))
      have HC := hid hc
      clear hc
      generalize (cutW b).2.1 = c at *
      generalize (cutW b).2.2 = a at *
      go_enter Try.func4, Try.ntmps4
      go_wp2_with (first
        | (go_at_call 10; refine (alive_any _).mono ?_; rintro e w2 ⟨rfl, hb2⟩)
        | (go_at_call 24; refine (hle.out _).mono ?_; rintro e w3 ⟨rfl, hb3⟩; have hw3 := hid (below_more hb2 hb3))
        | (go_at_call 29; refine (hre.out _).mono ?_; rintro e w4 ⟨⟨h1, rfl⟩ | ⟨h1, _⟩, hb4⟩; rotate_left; exact absurd h1 HC.out; have hw4 := hid (below_more hw3.out hb4))
        | (go_at_call 14; refine (htd.out _).mono ?_; rintro e w5 ⟨rfl, hb5⟩; have hw5 := hid (below_more hw4.out hb5)))
      go_ret
      exact ⟨rfl, hw5.out⟩
  · go_enter Try.func4, Try.ntmps4
    go_wp2_with (go_at_call 10; refine (alive_any _).mono ?_; rintro e w2 ⟨rfl, hb2⟩)
    go_ret
    exact ⟨rfl, hb2⟩

set_option linter.unusedVariables false
theorem dictLoads_own : ownKnob Try.prog.godebug = none := by kernel_rfl

set_option maxRecDepth 100000 in
theorem dictLoads_lifted (os : Os) (started : os.Started) (H : Type) (enc : TypeId × Value → H) :
    ReturnsInHanded {} Try.checked os 4 .any (Rows.dictLoadsSpec.pre6 enc Try.prog Try.f4 Rows.dictLoadsRow.domain false) (Rows.dictLoadsSpec.post enc Try.prog Try.f4 false true false false) := by
  refine returnsInHanded_of_change_sized (C := Try.checked) dictLoads_own started (by kernel_rfl) Try.func4
    (ChangeSpec.witness6 (enc := enc) (C := Try.checked) false ⟨#[], #[.string ByteArray.empty], []⟩ 8 (by kernel_rfl) (by kernel_rfl) (by kernel_rfl) (by kernel_rfl)) ?_
  intro W base args ds gs before hval0 hW hcnd hsz0 _
  have hsz : (DataW.weightsEach Try.prog (Try.f4.params.toList ++ Rows.dictLoadsSpec.plain.varTypes Try.prog) (ds ++ gs)).all (· ≤ reachBytes) = true := hsz0
  have hval : ∀ (j : Nat) t v, Try.f4.params[j]? = some t → args[j]? = some v → Value.okWide Try.prog W .any base t v := hval0
  have hW' := hW
  obtain ⟨p, q, hA0, hV, rfl, hfz, hnd⟩ := hW
  have hA : DataW.TrodAll enc Try.prog W 0 (fun _ => true) true Try.f4.params.toList args.toList ds p := hA0
  rw [Try.params4] at hA hval hsz
  obtain ⟨v0, vs0, d0, ds0, p0, q0, hargs, rfl, rfl, h0, r0⟩ := trodAll_cons hA
  obtain ⟨rfl, rfl, rfl⟩ := trodAll_nil r0
  obtain rfl : args = #[v0] := by cases args; simp_all
  obtain ⟨rfl, rfl⟩ := trodVars_none hV
  obtain ⟨a0, rfl, rfl, rfl, w0⟩ := open_string Try.underlying9 (hval 0 9 v0 rfl rfl) h0
  clear hA0 hval0
  have s0 : a0.size ≤ 140737488351232 := by have h := sized_string hsz (j := 0) (t := 9) rfl rfl; rw [Array.length_toList] at h; exact h
  refine (loads_walk a0 s0 W).mono fun e W' ⟨he, bel⟩ => ?_
  subst he
  exact ⟨_, rfl, _, _, _, [], _, [], hW', trodAll_mk1 (shut_bool Try.underlying4 _), (trodAll_cons_mk (shut_string Try.underlying9 w0) trodAll_mk0), rfl, bel.frame _, fun h => by cases h⟩

/-- THE STATEMENT. -/
theorem dictLoads_holds : Rows.DictLoadsSaid :=
  OpenClaim.holds_of_wide 4 Try.f4 rfl rfl rfl rfl rfl rfl rfl ⟨rfl, rfl, rfl, rfl, rfl⟩ rfl rfl rfl rfl rfl (by kernel_rfl) Try.func4 (by kernel_rfl)
    (of_decide_eq_true (by kernel_rfl)) (by unfold Func.isWrapper; first | (rw [if_pos (by decide +kernel)]; kernel_rfl) | (rw [if_neg (by decide +kernel)]; exact ⟨rfl, rfl⟩))
    (fun os started H enc _ => dictLoads_lifted os started H enc)
#print axioms dictLoads_holds
end Go.Proofs.Ytbeahodgkdbidaa
