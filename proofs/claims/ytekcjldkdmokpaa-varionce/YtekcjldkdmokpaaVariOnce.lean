/-
  The Go function lexiphanelaw3.VariOnce returns true for every text and every integer of 64 bits: bytes that are a number are just that number's, and fewer of them are none.
  No condition: whatever the input, in whatever memory; the arguments read as before.
-/
import Derived.Test.YtekcjldkdmokpaaVari
import Derived.ShutString
namespace Go.Proofs.Ytekcjldkdmokpaa
open Go.ChangeShapes Go.WideShapes Go.ChangeAt Go.RowKit
open Go.ChangeMaps (open_string shut_string)

theorem cut_in (cut : Int) (k : Nat) (h1 : 1 ≤ k) (h5 : k ≤ 5) : ∃ j : Nat, j < k ∧ (wrap64 (cut.tmod (k : Int) + (k : Int))).tmod (k : Int) = (j : Int) := by
  have a := Int.tmod_lt_of_pos cut (show (0 : Int) < (k : Int) by omega)
  have b := Int.lt_tmod_of_pos cut (show (0 : Int) < (k : Int) by omega)
  rw [IntWalk.wrap64_in _ ⟨by omega, by omega⟩, Int.tmod_eq_emod_of_nonneg (by omega)]
  have c := Int.emod_nonneg (cut.tmod (k : Int) + (k : Int)) (show (k : Int) ≠ 0 by omega)
  have d := Int.emod_lt_of_pos (cut.tmod (k : Int) + (k : Int)) (show (0 : Int) < (k : Int) by omega)
  exact ⟨((cut.tmod (k : Int) + (k : Int)) % (k : Int)).toNat, by omega, by omega⟩

set_option maxRecDepth 20000 in
set_option maxHeartbeats 2000000 in
theorem once_walk (b : ByteArray) (cut : Int) (w : World) : Calls Try.prog 4 #[.string b, .int .i64 cut] w fun e w' => e = .returned (.bool true) ∧ Below w.heap.size w w' := by
  by_cases hb : b.size ≤ 60
  · by_cases he : (vget b).2.2 = 0
    · obtain ⟨n, hn, hg, ht, hl, hj⟩ := vget_ok b he
      clear he
      have hk1 := vlen_pos n
      have hk5 := vlen_five n (by omega)
      obtain ⟨k, hk⟩ : ∃ k, k = vlen n := ⟨_, rfl⟩
      rw [← hk] at hg ht hl hj hk1 hk5
      have HK : Hid (k = vlen n) := hk
      clear hk
      obtain ⟨j, hjk, hcj⟩ := cut_in cut k hk1 hk5
      have hj2 := hj j hjk
      clear hj
      go_enter Try.func4, Try.ntmps4
      go_wp2_with (first
        | (go_at_call 8; refine (alive_any _).mono ?_; rintro e w1 ⟨rfl, hb1⟩)
        | (go_at_call 9; refine (put_in n hn _).mono ?_; rintro e w3 ⟨rfl, hb3⟩)
        | (go_at_call 13; refine (len_in n hn _).mono ?_; rw [← HK.out]; rintro e w4 ⟨rfl, rfl⟩)
        | (go_at_call 11; have _h := hb3; refine (get_any (b.extract 0 j) (by rw [ByteArray.size_extract]; omega) _).mono ?_; rintro e w5 ⟨rfl, rfl⟩)
        | (go_at_call 11; refine (get_any b (by omega) _).mono ?_; rintro e w2 ⟨rfl, rfl⟩))
      all_goals go_ret
      all_goals exact ⟨rfl, hb1.trans (hb3.mono hb1.size)⟩
    · obtain ⟨h1, h2⟩ := vget_err b he
      obtain ⟨x, hx⟩ : ∃ x, vget b = (0, 0, x) := ⟨(vget b).2.2, Prod.ext h1 (Prod.ext h2 rfl)⟩
      rw [hx] at he
      change ¬ x = 0 at he
      have hx0 : ((x : Int) == 0) = false := beq_false_of_ne (by omega)
      clear h1 h2
      go_enter Try.func4, Try.ntmps4
      go_wp2_with (first
        | (go_at_call 8; refine (alive_any _).mono ?_; rintro e w1 ⟨rfl, hb1⟩)
        | (go_at_call 11; refine (get_any b (by omega) _).mono ?_; rintro e w2 ⟨rfl, rfl⟩))
      go_ret
      exact ⟨rfl, hb1⟩
  · go_enter Try.func4, Try.ntmps4
    go_wp2_with (go_at_call 8; refine (alive_any _).mono ?_; rintro e w1 ⟨rfl, hb1⟩)
    go_ret
    exact ⟨rfl, hb1⟩

set_option linter.unusedVariables false
theorem variOnce_own : ownKnob Try.prog.godebug = none := by kernel_rfl

set_option maxRecDepth 100000 in
theorem variOnce_lifted (os : Os) (started : os.Started) (H : Type) (enc : TypeId × Value → H) :
    ReturnsInHanded {} Try.checked os 4 .any (Rows.variOnceSpec.pre6 enc Try.prog Try.f4 Rows.variOnceRow.domain false) (Rows.variOnceSpec.post enc Try.prog Try.f4 false true false false) := by
  refine returnsInHanded_of_change (C := Try.checked) variOnce_own started (by kernel_rfl) Try.func4
    (ChangeSpec.witness6 (enc := enc) (C := Try.checked) false ⟨#[], #[.string ByteArray.empty, .int .i64 0], []⟩ 8 (by kernel_rfl) (by kernel_rfl) (by kernel_rfl) (by kernel_rfl)) ?_
  intro W base args ds gs before hval0 hW hcnd _
  have hval : ∀ (j : Nat) t v, Try.f4.params[j]? = some t → args[j]? = some v → Value.okWide Try.prog W .any base t v := hval0
  have hW' := hW
  obtain ⟨p, q, hA0, hV, rfl, hfz, hnd⟩ := hW
  have hA : DataW.TrodAll enc Try.prog W 0 (fun _ => true) true Try.f4.params.toList args.toList ds p := hA0
  rw [Try.params4] at hA hval
  obtain ⟨v0, vs0, d0, ds0, p0, q0, hargs, rfl, rfl, h0, r0⟩ := trodAll_cons hA
  obtain ⟨v1, vs1, d1, ds1, p1, q1, rfl, rfl, rfl, h1, r1⟩ := trodAll_cons r0
  obtain ⟨rfl, rfl, rfl⟩ := trodAll_nil r1
  obtain rfl : args = #[v0, v1] := by cases args; simp_all
  obtain ⟨rfl, rfl⟩ := trodVars_none hV
  obtain ⟨a0, rfl, rfl, rfl, w0⟩ := open_string Try.underlying9 (hval 0 9 v0 rfl rfl) h0
  obtain ⟨a1, rfl, rfl, rfl, w1⟩ := open_int Try.underlying3 (hval 1 3 v1 rfl rfl) h1
  clear hA0 hval0
  refine (once_walk a0 a1 W).mono fun e W' ⟨he, bel⟩ => ?_
  subst he
  exact ⟨_, rfl, _, _, _, [], _, [], hW', trodAll_mk1 (shut_bool Try.underlying4 _), (trodAll_cons_mk (shut_string Try.underlying9 w0) (trodAll_cons_mk (shut_int Try.underlying3 w1) trodAll_mk0)), rfl, bel.frame _, fun h => by cases h⟩

/-- THE STATEMENT. -/
theorem variOnce_holds : Rows.VariOnceSaid :=
  OpenClaim.holds_of_wide 4 Try.f4 rfl rfl rfl rfl rfl rfl rfl ⟨rfl, rfl, rfl, rfl, rfl⟩ rfl rfl rfl rfl rfl (by kernel_rfl) Try.func4 (by kernel_rfl)
    (of_decide_eq_true (by kernel_rfl)) (by unfold Func.isWrapper; first | (rw [if_pos (by decide +kernel)]; kernel_rfl) | (rw [if_neg (by decide +kernel)]; exact ⟨rfl, rfl⟩))
    (fun os started H enc _ => variOnce_lifted os started H enc)
#print axioms variOnce_holds
end Go.Proofs.Ytekcjldkdmokpaa
