/-
  FlexWhole: of an empty dictionary, and of none, the tokens are the bytes. For every bytes.
  No condition: whatever the input, in whatever memory; the arguments read as before.
-/
import Derived.Test.YthgpacpahljabaaAlive14
import Derived.BigQuiet
import Derived.ShutString
namespace Go.Proofs.Ythgpacpahljabaa
open Go.ChangeShapes Go.WideShapes Go.ChangeAt Go.RowKit
open Go.ChangeMaps (open_string shut_string)

theorem standsT_empty (m : Nat) (x : List Nat) : standsT [] m x = [] := by simp [standsT]

theorem xA_none (y : List Nat) : xA [] y = y := by
  induction y with
  | nil => rfl
  | cons c y ih =>
    have h1 : xN [] (c :: y) = 1 := by unfold xN secondT lensT; rw [List.map_nil, standsT_empty]; rfl
    have h2 : xT [] (c :: y) = c := by unfold xT tokT; rw [List.map_nil, if_neg (by simp)]; rfl
    rw [xA_cons no_fine (by simp), h1, h2, List.drop_one, List.tail_cons, ih]

set_option maxRecDepth 20000 in
set_option maxHeartbeats 4000000 in
theorem whole_walk (b : ByteArray) (w : World) : Calls Try.prog 5 #[.string b] w fun e w' => e = .returned (.bool true) ∧ Below w.heap.size w w' := by
  by_cases hb : b.size ≤ 300
  · have hd1 : decide ((300 : Int) < (b.size : Int)) = false := decide_eq_false (by omega)
    have hd12 : decide (300 < b.size) = false := decide_eq_false (by omega)
    have eA := xA_none (nums b)
    have HEA := hid eA
    have hq0 : ((b.size : Int) != (b.size : Int)) = false := by simp
    clear eA
    go_enter Try.func5, Try.ntmps5
    go_wp2_with (first
      | (go_at_call 9; refine (alive_14 _).mono ?_; rintro e w1 ⟨rfl, hb1⟩; have HB1 := hid hb1; clear hb1)
      | (go_at_call 22; refine (make_fine (reads_nil w1) no_fine).mono ?_; rintro e w2 ⟨p0, rfl, hd, hb2⟩; have HD0 := hid (dict_v hd); have HB2 := hid (HB1.out.trans (hb2.mono HB1.out.size)); clear hd hb2)
      | (go_at_call_of 10 (Value.pointer (some ⟨p0, 0, none⟩)); refine (parseX_any HD0.out no_fine b (by omega)).mono ?_; rintro e w3 ⟨v3, rfl, ho3, hb3⟩; rw [HEA.out, nums_length] at ho3; obtain ⟨a3, c3, rfl⟩ := ownsRow_slice ho3; have HO3 := hid ho3; have HB3 := hid (HB2.out.trans (hb3.mono HB2.out.size)); clear ho3 hb3)
      | (have _h := HO3; go_at_call 10; refine (parseX_any (dict_none w3) no_fine b (by omega)).mono ?_; rintro e w4 ⟨v4, rfl, ho4, hb4⟩; rw [HEA.out, nums_length] at ho4; obtain ⟨a4, c4, rfl⟩ := ownsRow_slice ho4; have HO4 := hid ho4; have HO34 := hid (ownsRow_below HO3.out hb4); have HB4 := hid (HB3.out.trans (hb4.mono HB3.out.size)); clear ho4 hb4))
    go_loopw [33] (fun vi wr => ∃ i : Nat, vi = .int .i64 i ∧ i ≤ b.size ∧ Hid (Below w4.heap.size w4 wr)) (fun vi _ => b.size - (intOf vi).toNat)
    case atStart => exact ⟨0, rfl, by omega, Below.refl _ _⟩
    case round =>
      obtain ⟨i, rfl, hi, hbr⟩ := hrel
      by_cases hin : i < b.size
      · have hdi : decide ((i : Int) < (b.size : Int)) = true := decide_eq_true (by omega)
        have hx' : (decide ((0 : Int) ≤ (i : Int) ∧ (i : Int) < (b.size : Int))) = true := decide_eq_true ⟨by omega, by omega⟩
        have hat : (nats (ints (nums b)))[i]? = some (.int .i64 (((b[i]'hin).toNat : Nat) : Int)) := by
          have h1 : i < (nums b).length := by rw [nums_length]; exact hin
          have h2 := nums_at b i hin
          simp only [nats, ints, List.map_map, List.getElem?_map, List.getElem?_eq_getElem h1, h2]
          rfl
        obtain ⟨g3, k3, e3, _, _⟩ := HO34.out.form (by omega)
        simp only [Value.slice.injEq] at e3
        obtain ⟨rfl, _, rfl⟩ := e3
        obtain ⟨g4, k4, e4, _, _⟩ := HO4.out.form (by omega)
        simp only [Value.slice.injEq] at e4
        obtain ⟨rfl, _, rfl⟩ := e4
        have hcb0 := HO34.out.cellAt i (by omega)
        have hcc0 := HO4.out.cellAt i (by omega)
        rw [hat] at hcb0 hcc0
        have hcb := keeps hbr.out _ _ hcb0
        have hcc := keeps hbr.out _ _ hcc0
        have hix := byte_index b i hin
        obtain ⟨c, hc⟩ : ∃ c, c = (b[i]'hin).toNat := ⟨_, rfl⟩
        rw [← hc] at hix hcb hcc
        have hc256 : c < 256 := by rw [hc]; exact UInt8.toNat_lt _
        have hq : ((c : Int) != (c : Int)) = false := by simp
        clear hat hc hcb0 hcc0
        go_wp2_with fail
        go_quiet (fail)
        go_wp2
        go_roundw
        case rel => exact ⟨i + 1, by go_num, by omega, hbr.out.trans (drewN_below _ _ _)⟩
        case measure => simp [intOf]; omega
      · obtain rfl : i = b.size := by omega
        have hdi : decide ((b.size : Int) < (b.size : Int)) = false := decide_eq_false (by omega)
        have HBr := hid (HB4.out.trans (hbr.out.mono HB4.out.size))
        go_wp2
        go_ret
        exact ⟨rfl, HBr.out⟩
  · have hd1 : decide ((300 : Int) < (b.size : Int)) = true := decide_eq_true (by omega)
    have hd12 : decide (300 < b.size) = true := decide_eq_true (by omega)
    go_enter Try.func5, Try.ntmps5
    go_wp2_with (go_at_call 9; refine (alive_14 _).mono ?_; rintro e w1 ⟨rfl, hb1⟩)
    go_ret
    exact ⟨rfl, hb1⟩

set_option linter.unusedVariables false
theorem flexWhole_own : ownKnob Try.prog.godebug = none := by kernel_rfl

set_option maxRecDepth 100000 in
theorem flexWhole_lifted (os : Os) (started : os.Started) (H : Type) (enc : TypeId × Value → H) :
    ReturnsInHanded {} Try.checked os 5 .any (Rows.flexWholeSpec.pre6 enc Try.prog Try.f5 Rows.flexWholeRow.domain false) (Rows.flexWholeSpec.post enc Try.prog Try.f5 false true false false) := by
  refine returnsInHanded_of_change (C := Try.checked) flexWhole_own started (by kernel_rfl) Try.func5
    (ChangeSpec.witness6 (enc := enc) (C := Try.checked) false ⟨#[], #[.string ByteArray.empty], []⟩ 8 (by kernel_rfl) (by kernel_rfl) (by kernel_rfl) (by kernel_rfl)) ?_
  intro W base args ds gs before hval0 hW hcnd _
  have hval : ∀ (j : Nat) t v, Try.f5.params[j]? = some t → args[j]? = some v → Value.okWide Try.prog W .any base t v := hval0
  have hW' := hW
  obtain ⟨p, q, hA0, hV, rfl, hfz, hnd⟩ := hW
  have hA : DataW.TrodAll enc Try.prog W 0 (fun _ => true) true Try.f5.params.toList args.toList ds p := hA0
  rw [Try.params5] at hA hval
  obtain ⟨v0, vs0, d0, ds0, p0, q0, hargs, rfl, rfl, h0, r0⟩ := trodAll_cons hA
  obtain ⟨rfl, rfl, rfl⟩ := trodAll_nil r0
  obtain rfl : args = #[v0] := by cases args; simp_all
  obtain ⟨rfl, rfl⟩ := trodVars_none hV
  obtain ⟨a0, rfl, rfl, rfl, w0⟩ := open_string Try.underlying9 (hval 0 9 v0 rfl rfl) h0
  clear hA0 hval0
  refine (whole_walk a0 W).mono fun e W' ⟨he, bel⟩ => ?_
  subst he
  exact ⟨_, rfl, _, _, _, [], _, [], hW', trodAll_mk1 (shut_bool Try.underlying4 _), (trodAll_cons_mk (shut_string Try.underlying9 w0) trodAll_mk0), rfl, bel.frame _, fun h => by cases h⟩

/-- THE STATEMENT. -/
theorem flexWhole_holds : Rows.FlexWholeSaid :=
  OpenClaim.holds_of_wide 5 Try.f5 rfl rfl rfl rfl rfl rfl rfl ⟨rfl, rfl, rfl, rfl, rfl⟩ rfl rfl rfl rfl rfl (by kernel_rfl) Try.func5 (by kernel_rfl)
    (of_decide_eq_true (by kernel_rfl)) (by unfold Func.isWrapper; first | (rw [if_pos (by decide +kernel)]; kernel_rfl) | (rw [if_neg (by decide +kernel)]; exact ⟨rfl, rfl⟩))
    (fun os started H enc _ => flexWhole_lifted os started H enc)
#print axioms flexWhole_holds
end Go.Proofs.Ythgpacpahljabaa
