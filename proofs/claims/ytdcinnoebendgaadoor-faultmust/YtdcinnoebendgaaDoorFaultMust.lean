/-
  The Go function lexiphanelaw1.FaultMust returns true for every code and every place: of a fault one value (Must) is what two values (Of) tell; the words and the code are the same.
  Conditions: none on the arguments. The tables internal/strconv.uint64pow10, math/bits.deBruijn32tab and math/bits.deBruijn64tab hold what the text of the program lays in them (the card ties this to the text; the seat's copy of the project is pruned: nothing is said of packages that were left out).
-/
import Derived.Test.YtdcinnoebendgaaDoorFault
import Derived.Test.YtdcinnoebendgaaDoorTie
import Derived.Test.YtdcinnoebendgaaDoorCards
import Derived.Deep.DeepHandedRow
import Derived.Lib.LaidTab
import Derived.Lay
namespace Go.Proofs.YtdcinnoebendgaaDoor
open Go.ChangeShapes Go.WideShapes Go.ChangeAt Go.RowKit

theorem fm_zero (a : Int) (w : World) :
    Calls Tryd.prog 4 #[.int .i64 0, .int .i64 a] w fun e w' => e = .returned (.bool true) ∧ Below w.heap.size w w' := by
  go_enter Tryd.func4, Tryd.ntmps4
  go_wp2_with (first | (go_at_call 5; refine (alive_any _).mono ?_; rintro e w1 ⟨rfl, hb1⟩))
  go_ret
  exact ⟨rfl, hb1⟩

theorem code_keeps (c a : Int) (w0 w : World) (h0 : Below w0.heap.size w0 w) :
    Calls Tryd.prog 13 #[.iface 28 (.agg #[.int .i64 c, .int .i64 a])] w fun e w' => e = .returned (.int .i64 c) ∧ Below w0.heap.size w0 w' ∧ ∀ p v, w.cell? p = some v → w'.cell? p = some v := by
  refine (code_any c a w).mono ?_
  rintro e w' ⟨rfl, hb⟩
  exact ⟨rfl, onto h0 hb, keeps hb⟩

set_option maxRecDepth 100000 in
set_option maxHeartbeats 8000000 in
theorem fm_some (c a : Int) (hc : (c == 0) = false) (h0 : -9223372036854775808 ≤ a) (h1 : a ≤ 9223372036854775807) (w : World) (hT : Lib.TabBelow Tryd.prog w.heap.size w "internal/strconv.uint64pow10" .u64 Lib.pow10Tab) :
    Calls Tryd.prog 4 #[.int .i64 c, .int .i64 a] w fun e w' => e = .returned (.bool true) ∧ Below w.heap.size w w' := by
  go_enter Tryd.func4, Tryd.ntmps4
  go_wp2_with (first | (go_at_call 5; refine (alive_any _).mono ?_; rintro e w1 ⟨rfl, hb1⟩) | (go_at_call 6; refine (new_some _ _ (by assumption) _).mono ?_; rintro e w1 ⟨rfl, rfl⟩) | (go_at_call 7; refine (of_any _ _ _).mono ?_; rintro e w2 ⟨rfl, hb2⟩) | (go_at_call 8; refine (must_some _ _ _).mono ?_; rintro e w3 ⟨rfl, hb3⟩))
  have z1 := hb1.size
  have z2 := hb2.size
  have z3 := hb3.size
  simp at z3
  have hc3 := fun o => hb3.cell (p := ⟨w2.heap.size, o, none⟩) (by simp)
  have hd := (((((hb1.trans (hb2.mono z1)).alloc (by omega) (Obj.cells #[Value.int IntKind.i64 c, Value.int IntKind.i64 a] 28)).trans (hb3.mono (by simp; omega))).alloc (by omega) (Obj.cells #[Value.int IntKind.i64 c, Value.int IntKind.i64 a] 28))).drew
  first
    | go_region_held_law (fun w' => w'.cell? ⟨w2.heap.size, 0, none⟩ = some (.int .i64 c) ∧ w'.cell? ⟨w2.heap.size, 1, none⟩ = some (.int .i64 a) ∧ w'.cell? ⟨w3.heap.size, 0, none⟩ = some (.int .i64 c) ∧ w'.cell? ⟨w3.heap.size, 1, none⟩ = some (.int .i64 a) ∧ Below w.heap.size w w') (go_keep) (first | (go_at_call 12; refine (error_any c a h0 h1 w _ hT (by assumption)).mono ?_; rintro e w5 ⟨rfl, hb5, hk5⟩) | (go_at_call 13; refine (code_keeps _ _ w _ (by assumption)).mono ?_; rintro e w6 ⟨rfl, hb6, hk6⟩))
    | fail "the region"
  all_goals go_wp2
  all_goals go_ret
  all_goals exact ⟨rfl, by assumption⟩


/-- What is listed behind the first is met, too. -/
theorem laidMet_tail {P : Program} {W : World} {x : String × DataW Unit} {rest : List (String × DataW Unit)} (h : laidMet P (x :: rest) W) : laidMet P rest W := by
  obtain ⟨ps, ⟨g', t', cs, fuel, p, q, hg', ht', hvar, hd, hr, rfl⟩, hn, hf⟩ := h
  exact ⟨q, hr, (List.nodup_append.1 hn).2.1, fun b off hm => hf b off (List.mem_append.2 (Or.inr hm))⟩

theorem pow10_tab {W : World} (h : laidMetH Tryd.prog Rows.faultMustRow.laid W) : Lib.TabIs Tryd.prog W "internal/strconv.uint64pow10" .u64 Lib.pow10Tab :=
  Lib.tabIs_of_head (rest := []) (g := 0) (t := 48) (e := 41) (n := 20) (by kernel_rfl) (by kernel_rfl) Tryd.underlying48 Tryd.underlying41 (by kernel_rfl) (by kernel_rfl) (laidMet_tail (laidMet_tail h))

theorem fm_walk (c a : Int) (wa : (Lit.int .i64 a).wf = true) (W : World) (hL : laidMetH Tryd.prog Rows.faultMustRow.laid W) :
    Calls Tryd.prog 4 #[.int .i64 c, .int .i64 a] W fun e w' => e = .returned (.bool true) ∧ Below W.heap.size W w' := by
  by_cases hc : c = 0
  · rw [hc]; exact fm_zero a W
  · have hr := bounds_i64 wa
    exact fm_some c a (by simpa using hc) (by omega) (by omega) W (Lib.tabBelow_of_tabIs (pow10_tab hL))

set_option linter.unusedVariables false
theorem faultMust_own : ownKnob Tryd.prog.godebug = none := by kernel_rfl

theorem faultMust_contract (H : Type) (enc : TypeId × Value → H) (W : World) (base : Nat) (args : Array Value) (ds gs : List (DataW H)) (before : List MemPlace)
    (hval : ∀ (j : Nat) t v, Tryd.f4.params[j]? = some t → args[j]? = some v → Value.okWide Tryd.prog W .any base t v)
    (hW : DataW.Whole enc Tryd.prog Tryd.f4.params.toList Rows.faultMustSpec.vars false W args.toList ds gs before) (hL : laidMetH Tryd.prog Rows.faultMustRow.laid W) :
    Calls Tryd.prog 4 args W fun e W' => ∃ v, e = .returned v ∧ Rows.faultMustSpec.post enc Tryd.prog Tryd.f4 false true false false W args v W' := by
  have hW' := hW
  obtain ⟨p, q, hA0, hV, rfl, hfz, hnd⟩ := hW
  have hA : DataW.TrodAll enc Tryd.prog W 0 (fun _ => true) true Tryd.f4.params.toList args.toList ds p := hA0
  rw [Tryd.params4] at hA hval
  obtain ⟨v0, vs0, d0, ds0, p0, q0, hargs, rfl, rfl, h0, r0⟩ := trodAll_cons hA
  obtain ⟨v1, vs1, d1, ds1, p1, q1, rfl, rfl, rfl, h1, r1⟩ := trodAll_cons r0
  obtain ⟨rfl, rfl, rfl⟩ := trodAll_nil r1
  obtain rfl : args = #[v0, v1] := by cases args; simp_all
  obtain ⟨rfl, rfl⟩ := trodVars_none hV
  obtain ⟨a0, rfl, rfl, rfl, w0⟩ := open_int Tryd.underlying22 (hval 0 22 v0 rfl rfl) h0
  obtain ⟨a1, rfl, rfl, rfl, w1⟩ := open_int Tryd.underlying3 (hval 1 3 v1 rfl rfl) h1
  clear hA0
  refine (fm_walk a0 a1 w1 W hL).mono fun e W' ⟨he, bel⟩ => ?_
  subst he
  exact ⟨_, rfl, _, _, _, [], _, [], hW', trodAll_mk1 (shut_bool Tryd.underlying4 _), (trodAll_cons_mk (shut_int Tryd.underlying22 w0) (trodAll_cons_mk (shut_int Tryd.underlying3 w1) trodAll_mk0)), rfl, bel.frame _, fun h => by cases h⟩

theorem faultMust_met (os : Os) : laidMet Tryd.prog Rows.faultMustRow.laid ((World.laidAll Tryd.prog os Rows.faultMustRow.laid).forCall (fun _ _ => 0) ⟨#[], #[.int .i64 0, .int .i64 0], []⟩).memory :=
  laidMet_laidAll _ (by kernel_rfl) (by kernel_rfl)
theorem faultMust_reads (os : Os) {H : Type} (enc : TypeId × Value → H) : ∃ places, DataW.whole enc Tryd.prog ((World.laidAll Tryd.prog os Rows.faultMustRow.laid).forCall (fun _ _ => 0) ⟨#[], #[.int .i64 0, .int .i64 0], []⟩).memory Tryd.f4.params.toList Rows.faultMustSpec.vars false #[Value.int .i64 0, Value.int .i64 0].toList 8 = some ([.lit (.int .i64 0), .lit (.int .i64 0)], [], places) :=
  ⟨[], by kernel_rfl⟩

set_option maxRecDepth 100000 in
theorem faultMust_lifted (os : Os) (started : os.Started) (H : Type) (enc : TypeId × Value → H) (F : Stop.Interp) :
    ReturnsInHanded {} Tryd.checked os 4 .any ((OpenSpec.ofChange Rows.faultMustSpec).preRow enc Tryd.prog Tryd.f4 Rows.faultMustRow.domain false Rows.faultMustRow.laid) (((OpenSpec.ofChange Rows.faultMustSpec).at F).post enc Tryd.prog Tryd.f4 false true false false) := by
  obtain ⟨places, hx⟩ := faultMust_reads os enc
  refine returnsInHanded_of_row (C := Tryd.checked) (s := OpenSpec.ofChange Rows.faultMustSpec) faultMust_own started (by kernel_rfl) Tryd.func4
    (witness_row_at (enc := enc) (C := Tryd.checked) false (World.laidAll Tryd.prog os Rows.faultMustRow.laid) #[.int .i64 0, .int .i64 0] (World.laidAll_os _ _ _) (by kernel_rfl) (by kernel_rfl) (by kernel_rfl)
      (OpenSpec.preRow_of_cond 8 hx (by kernel_rfl) (fun k hk => by cases hk) (by kernel_rfl) (faultMust_met os))) ?_
  intro W base args ds gs before hval hW _ _ _ hL _ _
  exact faultMust_contract H enc W base args ds gs before hval hW hL

theorem faultMust_said : Rows.FaultMustSaid :=
  OpenClaim.holds_of_cond 4 Tryd.f4 rfl rfl rfl rfl rfl rfl rfl ⟨rfl, rfl, rfl, rfl, rfl⟩ rfl rfl rfl rfl rfl (by kernel_rfl) Tryd.func4 (by kernel_rfl)
    (of_decide_eq_true (by kernel_rfl)) (by unfold Func.isWrapper; first | (rw [if_pos (by decide +kernel)]; kernel_rfl) | (rw [if_neg (by decide +kernel)]; exact ⟨rfl, rfl⟩))
    (fun os started H enc _ F => by rw [OpenClaim.pre_eq_preRow]; exact faultMust_lifted os started H enc F)

theorem faultMust_plain (f : FuncId) (fn : Func) (hf : Tryd.pinned.checked.prog.funcNamed Rows.faultMustRow.func = some f) (hfn : Tryd.pinned.checked.prog.funcs[f]? = some fn) :
    true = Tryd.pinned.checked.prog.looks [] ∧ ∀ (j : Nat) t, fn.params[j]? = some t → Tryd.pinned.checked.prog.wantsStandIn t = false := by
  obtain rfl : f = 4 := Option.some.inj ((show Tryd.prog.funcNamed Rows.faultMustRow.func = some 4 by kernel_rfl).symm.trans hf) |>.symm
  obtain rfl : fn = Tryd.f4 := (Option.some.inj (Tryd.func4.symm.trans hfn)).symm
  refine ⟨by kernel_rfl, fun j t ht => ?_⟩
  rw [Tryd.params4] at ht
  have hm := Array.mem_of_getElem? ht
  simp at hm
  rcases hm with rfl | rfl
  · exact (show Tryd.prog.wantsStandIn 22 = false by kernel_rfl)
  · exact (show Tryd.prog.wantsStandIn 3 = false by kernel_rfl)

/-- THE CARD. -/
theorem faultMust_card : Rows.FaultMustCardSaid :=
  Claim7.holds_tied_plain_at .later [] _ _ _ _ faultMust_said (fun _ h => by cases h) (by kernel_rfl) (fun _ h => by cases h) faultMust_row_tie rfl ⟨rfl, rfl⟩ (by kernel_rfl) rfl faultMust_plain (by kernel_rfl)
#print axioms faultMust_card
end Go.Proofs.YtdcinnoebendgaaDoor
