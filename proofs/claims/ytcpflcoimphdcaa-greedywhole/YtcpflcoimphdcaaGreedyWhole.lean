/-
  GreedyWhole: of an empty dictionary the tokens are the bytes; of one that has all of it, it is one token. For every bytes.
  No condition: whatever the input, in whatever memory; the arguments read as before.
-/
import Derived.Test.YtcpflcoimphdcaaAlive13
import Derived.BigQuiet
import Derived.ShutString
namespace Go.Proofs.Ytcpflcoimphdcaa
open Go.ChangeShapes Go.WideShapes Go.ChangeAt Go.RowKit
open Go.ChangeMaps (open_string shut_string)

theorem standsT_none (m : Nat) (x : List Nat) : standsT [] m x = [] := by simp [standsT]

theorem gA_none (y : List Nat) : gA [] y = y := by
  induction y with
  | nil => rfl
  | cons c y ih =>
    have h1 : gN [] (c :: y) = 1 := by unfold gN firstT; rw [List.map_nil, standsT_none]; rfl
    have h2 : gT [] (c :: y) = c := by unfold gT tokT; rw [List.map_nil, if_neg (by simp)]; rfl
    rw [gA_cons no_fine (by simp), h1, h2, List.drop_one, List.tail_cons, ih]

theorem one_fine {b : ByteArray} (h1 : 1 ≤ b.size) (h2 : b.size ≤ 40) : Fine [b] := by
  rw [fine_iff]
  refine ⟨by simp, ?_, by simp [total]; omega, by simp⟩
  intro s hs
  simp at hs
  subst hs
  exact ⟨h1, h2⟩

theorem standsT_head {P : List (List Nat)} {m : Nat} {x : List Nat} (h1 : 1 ≤ x.length) (h2 : x.length ≤ m) (h3 : x ∈ P) : ∃ l, standsT P m x = x.length :: l := by
  have e : List.range' 1 (min m x.length) = List.range' 1 (x.length - 1) ++ [x.length] := by
    rw [show min m x.length = (x.length - 1) + 1 by omega, List.range'_concat, show 1 + 1 * (x.length - 1) = x.length by omega]
  unfold standsT
  rw [e, List.reverse_append, List.reverse_singleton, List.singleton_append, List.filter_cons_of_pos (by simp [h3])]
  exact ⟨_, rfl⟩

theorem gA_one {b : ByteArray} (h1 : 1 ≤ b.size) (h2 : b.size ≤ 40) : gA [b] (nums b) = [256] := by
  have hl := nums_length b
  obtain ⟨l, hS⟩ := standsT_head (P := [b].map nums) (m := 40) (x := nums b) (by omega) (by omega) (by simp)
  have hne : nums b ≠ [] := by intro e; rw [e] at hl; simp at hl; omega
  obtain ⟨e1, e2⟩ := gT_some hS (by rw [List.take_length]; simp)
  rw [gA_cons (one_fine h1 h2) hne, e1, e2, List.take_length, List.drop_length, gA_nil]
  simp

set_option maxRecDepth 20000 in
set_option maxHeartbeats 4000000 in
theorem whole_walk (b : ByteArray) (w : World) : Calls Try.prog 4 #[.string b] w fun e w' => e = .returned (.bool true) ∧ Below w.heap.size w w' := by
  by_cases hb1 : 1 ≤ b.size
  · have hd1 : decide ((b.size : Int) < 1) = false := decide_eq_false (by omega)
    have hd12 : decide (b.size < 1) = false := decide_eq_false (by omega)
    by_cases hb40 : b.size ≤ 40
    · have hd2 : decide ((40 : Int) < (b.size : Int)) = false := decide_eq_false (by omega)
      have hd22 : decide (40 < b.size) = false := decide_eq_false (by omega)
      have HO := hid (one_fine hb1 hb40)
      have eA := gA_none (nums b)
      have eB := gA_one hb1 hb40
      have HEA := hid eA
      have HEB := hid eB
      have hq0 : ((b.size : Int) != (b.size : Int)) = false := by simp
      clear eA eB
      go_enter Try.func4, Try.ntmps4
      go_wp2_with (first
        | (go_at_call 8; refine (alive_any _).mono ?_; rintro e w1 ⟨rfl, hb1⟩; have HB1 := hid hb1; clear hb1)
        | (go_at_call_of 18 (Value.slice none 0 0); refine (make_fine (reads_nil w1) no_fine).mono ?_; rintro e w2 ⟨p0, rfl, hd, hb2⟩; have HD0 := hid (dict_v hd); have HB2 := hid (HB1.out.trans (hb2.mono HB1.out.size)); clear hd hb2)
        | (have _h := HO3; go_at_call 18; refine (make_fine (reads_built w3 #[.string b] _ 1 rfl) HO.out).mono ?_; rintro e w4 ⟨p1, rfl, hd, hb4⟩; have HD1 := hid (dict_v hd); have hb34 := below_more ((Below.refl w3.heap.size w3).alloc (Nat.le_refl _) _) hb4; have HB4 := hid (HB3.out.trans (hb34.mono HB3.out.size)); have HO4 := hid (ownsRow_below HO3.out hb34); clear hd hb4 hb34 HO3 _h)
        | (go_at_call_of 9 (Value.pointer (some ⟨p0, 0, none⟩)); refine (parse_any HD0.out no_fine b (by omega)).mono ?_; rintro e w3 ⟨v3, rfl, ho3, hb3⟩; rw [HEA.out, nums_length] at ho3; obtain ⟨g3, c3, rfl, _, _⟩ := ho3.form (by omega); have HO3 := hid ho3; have HB3 := hid (HB2.out.trans (hb3.mono HB2.out.size)); clear ho3 hb3))
      go_loopw [36] (fun vi wr => ∃ i : Nat, vi = .int .i64 i ∧ i ≤ b.size ∧ Hid (Below w4.heap.size w4 wr)) (fun vi _ => b.size - (intOf vi).toNat)
      case atStart => exact ⟨0, rfl, by omega, Below.refl _ _⟩
      case round =>
        obtain ⟨i, rfl, hi, hbr⟩ := hrel
        by_cases hin : i < b.size
        · have hdi : decide ((i : Int) < (b.size : Int)) = true := decide_eq_true (by omega)
          have hx' : (decide ((0 : Int) ≤ (i : Int) ∧ (i : Int) < (b.size : Int))) = true := decide_eq_true ⟨by omega, by omega⟩
          have hcb0 := HO4.out.cellAt i (by omega)
          have hat : (nats (ints (nums b)))[i]? = some (.int .i64 (((b[i]'hin).toNat : Nat) : Int)) := by
            have h1 : i < (nums b).length := by rw [nums_length]; exact hin
            have h2 := nums_at b i hin
            simp only [nats, ints, List.map_map, List.getElem?_map, List.getElem?_eq_getElem h1, h2]
            rfl
          rw [hat] at hcb0
          have hcb := keeps hbr.out _ _ hcb0
          have hix := byte_index b i hin
          obtain ⟨c, hc⟩ : ∃ c, c = (b[i]'hin).toNat := ⟨_, rfl⟩
          rw [← hc] at hix hcb
          have hc256 : c < 256 := by rw [hc]; exact UInt8.toNat_lt _
          have hq : ((c : Int) != (c : Int)) = false := by simp
          clear hat hc hcb0
          go_wp2_with fail
          go_quiet (fail)
          go_wp2
          go_roundw
          case rel => exact ⟨i + 1, by go_num, by omega, hbr.out.trans (drewN_below _ _ _)⟩
          case measure => simp [intOf]; omega
        · obtain rfl : i = b.size := by omega
          have HD1r := hid (HD1.out.below hbr.out)
          have HBr := hid (HB4.out.trans (hbr.out.mono HB4.out.size))
          go_wp2_with (first
            | (go_at_call_of 9 (#[Value.pointer (some ⟨p1, 0, none⟩), Value.string ⟨#[]⟩] : Array Value); refine (parse_any HD6.out HO.out ⟨#[]⟩ (by decide)).mono ?_; rintro e w7 ⟨v7, rfl, ho7, hb7⟩; rw [show nums (⟨#[]⟩ : ByteArray) = [] from rfl, gA_nil, List.length_nil] at ho7; obtain ⟨a7, c7, rfl⟩ := ownsRow_slice ho7; have HB7 := hid (HB6.out.trans (hb7.mono HB6.out.size)); clear ho7 hb7)
            | (go_at_call 9; refine (parse_any HD1r.out HO.out b (by omega)).mono ?_; rintro e w5 ⟨v5, rfl, ho5, hb5⟩; rw [HEB.out] at ho5; have HR5 := hid (ownsRow_reads ho5); have HB5 := hid (HBr.out.trans (hb5.mono HBr.out.size)); have HD5 := hid (HD1r.out.below hb5); clear ho5 hb5)
            | (go_at_call 14; have hal : Below w5.heap.size w5 (w5.alloc (.cells #[.int .i64 256] 3)) := (Below.refl _ _).alloc (Nat.le_refl _) _; refine (sameInts_any (xs := [256]) (ys := [256]) (HR5.out.below hal) (reads_built w5 #[.int .i64 256] _ 1 rfl) (by decide) (by decide)).mono ?_; rintro e w6 ⟨rfl, hb6⟩; rw [decide_eq_true rfl]; have hb56 := below_more hal hb6; have HB6 := hid (HB5.out.trans (hb56.mono HB5.out.size)); have HD6 := hid (HD5.out.below hb56); clear hb6 hb56 hal))
          go_ret
          exact ⟨by simp, HB7.out⟩
    · have hd2 : decide ((40 : Int) < (b.size : Int)) = true := decide_eq_true (by omega)
      have hd22 : decide (40 < b.size) = true := decide_eq_true (by omega)
      go_enter Try.func4, Try.ntmps4
      go_wp2_with (go_at_call 8; refine (alive_any _).mono ?_; rintro e w1 ⟨rfl, hb1⟩)
      go_ret
      exact ⟨rfl, hb1⟩
  · have hd1 : decide ((b.size : Int) < 1) = true := decide_eq_true (by omega)
    have hd12 : decide (b.size < 1) = true := decide_eq_true (by omega)
    go_enter Try.func4, Try.ntmps4
    go_wp2_with (go_at_call 8; refine (alive_any _).mono ?_; rintro e w1 ⟨rfl, hb1⟩)
    go_ret
    exact ⟨rfl, hb1⟩

set_option linter.unusedVariables false
theorem greedyWhole_own : ownKnob Try.prog.godebug = none := by kernel_rfl

set_option maxRecDepth 100000 in
theorem greedyWhole_lifted (os : Os) (started : os.Started) (H : Type) (enc : TypeId × Value → H) :
    ReturnsInHanded {} Try.checked os 4 .any (Rows.greedyWholeSpec.pre6 enc Try.prog Try.f4 Rows.greedyWholeRow.domain false) (Rows.greedyWholeSpec.post enc Try.prog Try.f4 false true false false) := by
  refine returnsInHanded_of_change (C := Try.checked) greedyWhole_own started (by kernel_rfl) Try.func4
    (ChangeSpec.witness6 (enc := enc) (C := Try.checked) false ⟨#[], #[.string ByteArray.empty], []⟩ 8 (by kernel_rfl) (by kernel_rfl) (by kernel_rfl) (by kernel_rfl)) ?_
  intro W base args ds gs before hval0 hW hcnd _
  have hval : ∀ (j : Nat) t v, Try.f4.params[j]? = some t → args[j]? = some v → Value.okWide Try.prog W .any base t v := hval0
  have hW' := hW
  obtain ⟨p, q, hA0, hV, rfl, hfz, hnd⟩ := hW
  have hA : DataW.TrodAll enc Try.prog W 0 (fun _ => true) true Try.f4.params.toList args.toList ds p := hA0
  rw [Try.params4] at hA hval
  obtain ⟨v0, vs0, d0, ds0, p0, q0, hargs, rfl, rfl, h0, r0⟩ := trodAll_cons hA
  obtain ⟨rfl, rfl, rfl⟩ := trodAll_nil r0
  obtain rfl : args = #[v0] := by cases args; simp_all
  obtain ⟨rfl, rfl⟩ := trodVars_none hV
  obtain ⟨a0, rfl, rfl, rfl, w0⟩ := open_string Try.underlying9 (hval 0 9 v0 rfl rfl) h0
  clear hA0 hval0
  refine (whole_walk a0 W).mono fun e W' ⟨he, bel⟩ => ?_
  subst he
  exact ⟨_, rfl, _, _, _, [], _, [], hW', trodAll_mk1 (shut_bool Try.underlying4 _), (trodAll_cons_mk (shut_string Try.underlying9 w0) trodAll_mk0), rfl, bel.frame _, fun h => by cases h⟩

/-- THE STATEMENT. -/
theorem greedyWhole_holds : Rows.GreedyWholeSaid :=
  OpenClaim.holds_of_wide 4 Try.f4 rfl rfl rfl rfl rfl rfl rfl ⟨rfl, rfl, rfl, rfl, rfl⟩ rfl rfl rfl rfl rfl (by kernel_rfl) Try.func4 (by kernel_rfl)
    (of_decide_eq_true (by kernel_rfl)) (by unfold Func.isWrapper; first | (rw [if_pos (by decide +kernel)]; kernel_rfl) | (rw [if_neg (by decide +kernel)]; exact ⟨rfl, rfl⟩))
    (fun os started H enc _ => greedyWhole_lifted os started H enc)
#print axioms greedyWhole_holds
end Go.Proofs.Ytcpflcoimphdcaa
