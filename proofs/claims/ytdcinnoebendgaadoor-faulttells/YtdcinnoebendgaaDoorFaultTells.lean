/-
  The Go function lexiphanelaw1.FaultTells returns true for every code and every place: New, Of, Must, Code, Name and Error tell of it what the document says: nil of OK (Must panics then), else a fault of both, its name, and its words: the name, at, and the place in digits.
  Conditions: none on the arguments. The tables internal/strconv.uint64pow10, math/bits.deBruijn32tab and math/bits.deBruijn64tab hold what the text of the program lays in them (the card ties this to the text; the copy of the project is pruned: nothing is said of packages that were left out).
-/
import Derived.Test.YtdcinnoebendgaaDoorDigits
import Derived.Test.YtdcinnoebendgaaDoorTie
import Derived.Test.YtdcinnoebendgaaDoorCards
import Derived.Deep.DeepHandedRow
import Derived.Lib.LaidTab
import Derived.Lay
namespace Go.Proofs.YtdcinnoebendgaaDoor
open Go.ChangeShapes Go.WideShapes Go.ChangeAt Go.RowKit

theorem code_keeps (c a : Int) (w0 w : World) (h0 : Below w0.heap.size w0 w) :
    Calls Tryd.prog 13 #[.iface 28 (.agg #[.int .i64 c, .int .i64 a])] w fun e w' => e = .returned (.int .i64 c) ∧ Below w0.heap.size w0 w' ∧ ∀ p v, w.cell? p = some v → w'.cell? p = some v := by
  refine (code_any c a w).mono ?_
  rintro e w' ⟨rfl, hb⟩
  exact ⟨rfl, onto h0 hb, keeps hb⟩
theorem rname_keeps (c : Int) (w0 w : World) (h0 : Below w0.heap.size w0 w) :
    Calls Tryd.prog 9 #[.int .i64 c] w fun e w' => e = .returned (.string (nameB c)) ∧ Below w0.heap.size w0 w' ∧ ∀ p v, w.cell? p = some v → w'.cell? p = some v := by
  refine (rname_any c w).mono ?_
  rintro e w' ⟨rfl, hb⟩
  exact ⟨rfl, onto h0 hb, keeps hb⟩
theorem digits_keeps (n : Int) (h0 : -9223372036854775808 ≤ n) (h1 : n ≤ 9223372036854775807) (w0 w : World) (hb0 : Below w0.heap.size w0 w) :
    Calls Tryd.prog 10 #[.int .i64 n] w fun e w' => e = .returned (.string ⟨(Lib.itoa n).toArray⟩) ∧ Below w0.heap.size w0 w' ∧ ∀ p v, w.cell? p = some v → w'.cell? p = some v := by
  refine (digits_any n h0 h1 w).mono ?_
  rintro e w' ⟨rfl, hb⟩
  exact ⟨rfl, onto hb0 hb, keeps hb⟩

theorem add1 (c : Int) (W : World) : (Op.stringOp .add (nameB c) ⟨#[32, 97, 116, 32]⟩).run Tryd.prog W = .ok (.string (nameB c ++ ⟨#[32, 97, 116, 32]⟩)) W := by
  have hn := nameB_size c
  have h4 : (⟨#[32, 97, 116, 32]⟩ : ByteArray).size = 4 := rfl
  exact run_string_add_sum W _ _ (by omega)
theorem add2 (c a : Int) (h0 : -9223372036854775808 ≤ a) (h1 : a ≤ 9223372036854775807) (W : World) : (Op.stringOp .add (nameB c ++ ⟨#[32, 97, 116, 32]⟩) ⟨(Lib.itoa a).toArray⟩).run Tryd.prog W = .ok (.string (errB c a)) W := by
  have hn := nameB_size c
  have hl := Lib.itoa_length_le a h0 h1
  have h4 : (⟨#[32, 97, 116, 32]⟩ : ByteArray).size = 4 := rfl
  have hs : (⟨(Lib.itoa a).toArray⟩ : ByteArray).size = (Lib.itoa a).length := by simp [ByteArray.size]
  exact run_string_add_sum W _ _ (by rw [ByteArray.size_append, hs, h4]; omega)

set_option maxHeartbeats 4000000 in
theorem ft_some (c a : Int) (hc : (c == 0) = false) (h0 : -9223372036854775808 ≤ a) (h1 : a ≤ 9223372036854775807) (w : World) (hT : Lib.TabBelow Tryd.prog w.heap.size w "internal/strconv.uint64pow10" .u64 Lib.pow10Tab) :
    Calls Tryd.prog 3 #[.int .i64 c, .int .i64 a] w fun e w' => e = .returned (.bool true) ∧ Below w.heap.size w w' := by
  have s1 := add1 c
  have s2 := add2 c a h0 h1
  go_enter Tryd.func3, Tryd.ntmps3
  go_wp2_with (first | (go_at_call 5; refine (alive_any _).mono ?_; rintro e w1 ⟨rfl, hb1⟩) | (go_at_call 6; refine (new_some _ _ (by assumption) _).mono ?_; rintro e w1 ⟨rfl, rfl⟩) | (go_at_call 7; refine (of_any _ _ _).mono ?_; rintro e w2 ⟨rfl, hb2⟩) | (go_at_call 8; refine (must_some _ _ _).mono ?_; rintro e w3 ⟨rfl, hb3⟩))
  have z1 := hb1.size
  have z2 := hb2.size
  have z3 := hb3.size
  simp at z3
  have hc3 := fun o => hb3.cell (p := ⟨w2.heap.size, o, none⟩) (by simp)
  have hd := (((((hb1.trans (hb2.mono z1)).alloc (by omega) (Obj.cells #[Value.int IntKind.i64 c, Value.int IntKind.i64 a] 28)).trans (hb3.mono (by simp; omega))).alloc (by omega) (Obj.cells #[Value.int IntKind.i64 c, Value.int IntKind.i64 a] 28))).alloc (by simp; omega) (Obj.cells #[Value.int IntKind.i64 c, Value.int IntKind.i64 a] 28)
  have ne : ¬ w2.heap.size = w3.heap.size := by omega
  have ne2 : ¬ w2.heap.size = w3.heap.size + 1 := by omega
  have f1 : ((w3.alloc (Obj.cells #[Value.int IntKind.i64 c, Value.int IntKind.i64 a] 28)).alloc (Obj.cells #[Value.int IntKind.i64 c, Value.int IntKind.i64 a] 28)).cell? ⟨w2.heap.size, 0, none⟩ = some (.int .i64 c) := by rw [World.cell?_alloc_lt _ _ _ (by simp; omega), World.cell?_alloc_lt _ _ _ (by simp; omega), hc3]; simp [go_sem]
  have f2 : ((w3.alloc (Obj.cells #[Value.int IntKind.i64 c, Value.int IntKind.i64 a] 28)).alloc (Obj.cells #[Value.int IntKind.i64 c, Value.int IntKind.i64 a] 28)).cell? ⟨w2.heap.size, 1, none⟩ = some (.int .i64 a) := by rw [World.cell?_alloc_lt _ _ _ (by simp; omega), World.cell?_alloc_lt _ _ _ (by simp; omega), hc3]; simp [go_sem]
  have f3 : ((w3.alloc (Obj.cells #[Value.int IntKind.i64 c, Value.int IntKind.i64 a] 28)).alloc (Obj.cells #[Value.int IntKind.i64 c, Value.int IntKind.i64 a] 28)).cell? ⟨w3.heap.size, 0, none⟩ = some (.int .i64 c) := by rw [World.cell?_alloc_lt _ _ _ (by simp)]; simp [go_sem]
  have f4 : ((w3.alloc (Obj.cells #[Value.int IntKind.i64 c, Value.int IntKind.i64 a] 28)).alloc (Obj.cells #[Value.int IntKind.i64 c, Value.int IntKind.i64 a] 28)).cell? ⟨w3.heap.size, 1, none⟩ = some (.int .i64 a) := by rw [World.cell?_alloc_lt _ _ _ (by simp)]; simp [go_sem]
  have f5 : ((w3.alloc (Obj.cells #[Value.int IntKind.i64 c, Value.int IntKind.i64 a] 28)).alloc (Obj.cells #[Value.int IntKind.i64 c, Value.int IntKind.i64 a] 28)).cell? ⟨w3.heap.size + 1, 0, none⟩ = some (.int .i64 c) := by simp [go_sem]
  have f6 : ((w3.alloc (Obj.cells #[Value.int IntKind.i64 c, Value.int IntKind.i64 a] 28)).alloc (Obj.cells #[Value.int IntKind.i64 c, Value.int IntKind.i64 a] 28)).cell? ⟨w3.heap.size + 1, 1, none⟩ = some (.int .i64 a) := by simp [go_sem]
  clear hb1 hb2 hb3 hc3 z1 z2 z3 ne ne2
  go_wp2_with (first | (go_at_call 9; refine (rname_keeps _ w _ (by assumption)).mono ?_; rintro e w5 ⟨rfl, hb5, hk5⟩; have f1 := hk5 _ _ f1; have f2 := hk5 _ _ f2; have f3 := hk5 _ _ f3; have f4 := hk5 _ _ f4; have f5 := hk5 _ _ f5; have f6 := hk5 _ _ f6; clear hk5) | (go_at_call 10; refine (digits_keeps a h0 h1 w _ (by assumption)).mono ?_; rintro e w5 ⟨rfl, hb5, hk5⟩; have f1 := hk5 _ _ f1; have f2 := hk5 _ _ f2; have f3 := hk5 _ _ f3; have f4 := hk5 _ _ f4; have f5 := hk5 _ _ f5; have f6 := hk5 _ _ f6; clear hk5) | (go_at_call 11; refine (name_any _ _).mono ?_; rintro e w5 ⟨rfl, rfl⟩) | (go_at_call 12; refine (error_any c a h0 h1 w _ hT (by assumption)).mono ?_; rintro e w5 ⟨rfl, hb5, hk5⟩; have f1 := hk5 _ _ f1; have f2 := hk5 _ _ f2; have f3 := hk5 _ _ f3; have f4 := hk5 _ _ f4; have f5 := hk5 _ _ f5; have f6 := hk5 _ _ f6; clear hk5) | (go_at_call 13; refine (code_keeps _ _ w _ (by assumption)).mono ?_; rintro e w5 ⟨rfl, hb5, hk5⟩; have f1 := hk5 _ _ f1; have f2 := hk5 _ _ f2; have f3 := hk5 _ _ f3; have f4 := hk5 _ _ f4; have f5 := hk5 _ _ f5; have f6 := hk5 _ _ f6; clear hk5))
  all_goals go_ret
  all_goals exact ⟨rfl, by assumption⟩

set_option maxHeartbeats 4000000 in
theorem ft_zero (a : Int) (h0 : -9223372036854775808 ≤ a) (h1 : a ≤ 9223372036854775807) (w : World) (hT : Lib.TabBelow Tryd.prog w.heap.size w "internal/strconv.uint64pow10" .u64 Lib.pow10Tab) :
    Calls Tryd.prog 3 #[.int .i64 0, .int .i64 a] w fun e w' => e = .returned (.bool true) ∧ Below w.heap.size w w' := by
  have s1 := add1 0
  have s2 := add2 0 a h0 h1
  go_enter Tryd.func3, Tryd.ntmps3
  go_wp2_with (first | (go_at_call 5; refine (alive_any _).mono ?_; rintro e w1 ⟨rfl, hb1⟩) | (go_at_call 6; refine (new_nil _ _).mono ?_; rintro e w1 ⟨rfl, rfl⟩) | (go_at_call 7; refine (of_nil _).mono ?_; rintro e w2 ⟨rfl, hb2⟩) | (go_at_call 8; refine (must_nil _).mono ?_; rintro e w3 ⟨rfl, hb3⟩))
  have z1 := hb1.size
  have z2 := hb2.size
  have z3 := hb3.size
  simp at z3
  have hc3 := fun o => hb3.cell (p := ⟨w2.heap.size, o, none⟩) (by simp)
  have hd := (((((hb1.trans (hb2.mono z1)).alloc (by omega) (Obj.cells #[Value.int IntKind.i64 0, Value.int IntKind.i64 0] 28)).trans (hb3.mono (by simp; omega))).alloc (by omega) (Obj.cells #[Value.int IntKind.i64 0, Value.int IntKind.i64 0] 28))).alloc (by simp; omega) (Obj.cells #[Value.int IntKind.i64 0, Value.int IntKind.i64 a] 28)
  have f1 : ((w3.alloc (Obj.cells #[Value.int IntKind.i64 0, Value.int IntKind.i64 0] 28)).alloc (Obj.cells #[Value.int IntKind.i64 0, Value.int IntKind.i64 a] 28)).cell? ⟨w2.heap.size, 0, none⟩ = some (.int .i64 0) := by rw [World.cell?_alloc_lt _ _ _ (by simp; omega), World.cell?_alloc_lt _ _ _ (by simp; omega), hc3]; simp [go_sem]
  have f2 : ((w3.alloc (Obj.cells #[Value.int IntKind.i64 0, Value.int IntKind.i64 0] 28)).alloc (Obj.cells #[Value.int IntKind.i64 0, Value.int IntKind.i64 a] 28)).cell? ⟨w2.heap.size, 1, none⟩ = some (.int .i64 0) := by rw [World.cell?_alloc_lt _ _ _ (by simp; omega), World.cell?_alloc_lt _ _ _ (by simp; omega), hc3]; simp [go_sem]
  have f5 : ((w3.alloc (Obj.cells #[Value.int IntKind.i64 0, Value.int IntKind.i64 0] 28)).alloc (Obj.cells #[Value.int IntKind.i64 0, Value.int IntKind.i64 a] 28)).cell? ⟨w3.heap.size + 1, 0, none⟩ = some (.int .i64 0) := by simp [go_sem]
  have f6 : ((w3.alloc (Obj.cells #[Value.int IntKind.i64 0, Value.int IntKind.i64 0] 28)).alloc (Obj.cells #[Value.int IntKind.i64 0, Value.int IntKind.i64 a] 28)).cell? ⟨w3.heap.size + 1, 1, none⟩ = some (.int .i64 a) := by simp [go_sem]
  clear hb1 hb2 hb3 hc3 z1 z2 z3
  go_wp2_with (first | (go_at_call 9; refine (rname_keeps _ w _ (by assumption)).mono ?_; rintro e w5 ⟨rfl, hb5, hk5⟩; have f1 := hk5 _ _ f1; have f2 := hk5 _ _ f2; have f5 := hk5 _ _ f5; have f6 := hk5 _ _ f6; clear hk5) | (go_at_call 10; refine (digits_keeps a h0 h1 w _ (by assumption)).mono ?_; rintro e w5 ⟨rfl, hb5, hk5⟩; have f1 := hk5 _ _ f1; have f2 := hk5 _ _ f2; have f5 := hk5 _ _ f5; have f6 := hk5 _ _ f6; clear hk5) | (go_at_call 11; refine (name_any _ _).mono ?_; rintro e w5 ⟨rfl, rfl⟩) | (go_at_call 12; refine (error_any 0 a h0 h1 w _ hT (by assumption)).mono ?_; rintro e w5 ⟨rfl, hb5, hk5⟩; have f1 := hk5 _ _ f1; have f2 := hk5 _ _ f2; have f5 := hk5 _ _ f5; have f6 := hk5 _ _ f6; clear hk5) | (go_at_call 13; refine (code_nil _).mono ?_; rintro e w5 ⟨rfl, rfl⟩))
  go_ret
  exact ⟨rfl, by assumption⟩


/-- What is listed behind the first is met, too. -/
theorem laidMet_tail {P : Program} {W : World} {x : String × DataW Unit} {rest : List (String × DataW Unit)} (h : laidMet P (x :: rest) W) : laidMet P rest W := by
  obtain ⟨ps, ⟨g', t', cs, fuel, p, q, hg', ht', hvar, hd, hr, rfl⟩, hn, hf⟩ := h
  exact ⟨q, hr, (List.nodup_append.1 hn).2.1, fun b off hm => hf b off (List.mem_append.2 (Or.inr hm))⟩

theorem pow10_tab {W : World} (h : laidMetH Tryd.prog Rows.faultTellsRow.laid W) : Lib.TabIs Tryd.prog W "internal/strconv.uint64pow10" .u64 Lib.pow10Tab :=
  Lib.tabIs_of_head (rest := []) (g := 0) (t := 48) (e := 41) (n := 20) (by kernel_rfl) (by kernel_rfl) Tryd.underlying48 Tryd.underlying41 (by kernel_rfl) (by kernel_rfl) (laidMet_tail (laidMet_tail h))

theorem ft_walk (c a : Int) (wa : (Lit.int .i64 a).wf = true) (W : World) (hL : laidMetH Tryd.prog Rows.faultTellsRow.laid W) :
    Calls Tryd.prog 3 #[.int .i64 c, .int .i64 a] W fun e w' => e = .returned (.bool true) ∧ Below W.heap.size W w' := by
  have hr := bounds_i64 wa
  by_cases hc : c = 0
  · rw [hc]; exact ft_zero a (by omega) (by omega) W (Lib.tabBelow_of_tabIs (pow10_tab hL))
  · exact ft_some c a (by simpa using hc) (by omega) (by omega) W (Lib.tabBelow_of_tabIs (pow10_tab hL))


set_option linter.unusedVariables false
theorem faultTells_own : ownKnob Tryd.prog.godebug = none := by kernel_rfl

theorem faultTells_contract (H : Type) (enc : TypeId × Value → H) (W : World) (base : Nat) (args : Array Value) (ds gs : List (DataW H)) (before : List MemPlace)
    (hval : ∀ (j : Nat) t v, Tryd.f3.params[j]? = some t → args[j]? = some v → Value.okWide Tryd.prog W .any base t v)
    (hW : DataW.Whole enc Tryd.prog Tryd.f3.params.toList Rows.faultTellsSpec.vars false W args.toList ds gs before) (hL : laidMetH Tryd.prog Rows.faultTellsRow.laid W) :
    Calls Tryd.prog 3 args W fun e W' => ∃ v, e = .returned v ∧ Rows.faultTellsSpec.post enc Tryd.prog Tryd.f3 false true false false W args v W' := by
  have hW' := hW
  obtain ⟨p, q, hA0, hV, rfl, hfz, hnd⟩ := hW
  have hA : DataW.TrodAll enc Tryd.prog W 0 (fun _ => true) true Tryd.f3.params.toList args.toList ds p := hA0
  rw [Tryd.params3] at hA hval
  obtain ⟨v0, vs0, d0, ds0, p0, q0, hargs, rfl, rfl, h0, r0⟩ := trodAll_cons hA
  obtain ⟨v1, vs1, d1, ds1, p1, q1, rfl, rfl, rfl, h1, r1⟩ := trodAll_cons r0
  obtain ⟨rfl, rfl, rfl⟩ := trodAll_nil r1
  obtain rfl : args = #[v0, v1] := by cases args; simp_all
  obtain ⟨rfl, rfl⟩ := trodVars_none hV
  obtain ⟨a0, rfl, rfl, rfl, w0⟩ := open_int Tryd.underlying22 (hval 0 22 v0 rfl rfl) h0
  obtain ⟨a1, rfl, rfl, rfl, w1⟩ := open_int Tryd.underlying3 (hval 1 3 v1 rfl rfl) h1
  clear hA0
  refine (ft_walk a0 a1 w1 W hL).mono fun e W' ⟨he, bel⟩ => ?_
  subst he
  exact ⟨_, rfl, _, _, _, [], _, [], hW', trodAll_mk1 (shut_bool Tryd.underlying4 _), (trodAll_cons_mk (shut_int Tryd.underlying22 w0) (trodAll_cons_mk (shut_int Tryd.underlying3 w1) trodAll_mk0)), rfl, bel.frame _, fun h => by cases h⟩

theorem faultTells_met (os : Os) : laidMet Tryd.prog Rows.faultTellsRow.laid ((World.laidAll Tryd.prog os Rows.faultTellsRow.laid).forCall (fun _ _ => 0) ⟨#[], #[.int .i64 0, .int .i64 0], []⟩).memory :=
  laidMet_laidAll _ (by kernel_rfl) (by kernel_rfl)
theorem faultTells_reads (os : Os) {H : Type} (enc : TypeId × Value → H) : ∃ places, DataW.whole enc Tryd.prog ((World.laidAll Tryd.prog os Rows.faultTellsRow.laid).forCall (fun _ _ => 0) ⟨#[], #[.int .i64 0, .int .i64 0], []⟩).memory Tryd.f3.params.toList Rows.faultTellsSpec.vars false #[Value.int .i64 0, Value.int .i64 0].toList 8 = some ([.lit (.int .i64 0), .lit (.int .i64 0)], [], places) :=
  ⟨[], by kernel_rfl⟩

set_option maxRecDepth 100000 in
theorem faultTells_lifted (os : Os) (started : os.Started) (H : Type) (enc : TypeId × Value → H) (F : Stop.Interp) :
    ReturnsInHanded {} Tryd.checked os 3 .any ((OpenSpec.ofChange Rows.faultTellsSpec).preRow enc Tryd.prog Tryd.f3 Rows.faultTellsRow.domain false Rows.faultTellsRow.laid) (((OpenSpec.ofChange Rows.faultTellsSpec).at F).post enc Tryd.prog Tryd.f3 false true false false) := by
  obtain ⟨places, hx⟩ := faultTells_reads os enc
  refine returnsInHanded_of_row (C := Tryd.checked) (s := OpenSpec.ofChange Rows.faultTellsSpec) faultTells_own started (by kernel_rfl) Tryd.func3
    (witness_row_at (enc := enc) (C := Tryd.checked) false (World.laidAll Tryd.prog os Rows.faultTellsRow.laid) #[.int .i64 0, .int .i64 0] (World.laidAll_os _ _ _) (by kernel_rfl) (by kernel_rfl) (by kernel_rfl)
      (OpenSpec.preRow_of_cond 8 hx (by kernel_rfl) (fun k hk => by cases hk) (by kernel_rfl) (faultTells_met os))) ?_
  intro W base args ds gs before hval hW _ _ _ hL _ _
  exact faultTells_contract H enc W base args ds gs before hval hW hL

theorem faultTells_said : Rows.FaultTellsSaid :=
  OpenClaim.holds_of_cond 3 Tryd.f3 rfl rfl rfl rfl rfl rfl rfl ⟨rfl, rfl, rfl, rfl, rfl⟩ rfl rfl rfl rfl rfl (by kernel_rfl) Tryd.func3 (by kernel_rfl)
    (of_decide_eq_true (by kernel_rfl)) (by unfold Func.isWrapper; first | (rw [if_pos (by decide +kernel)]; kernel_rfl) | (rw [if_neg (by decide +kernel)]; exact ⟨rfl, rfl⟩))
    (fun os started H enc _ F => by rw [OpenClaim.pre_eq_preRow]; exact faultTells_lifted os started H enc F)

theorem faultTells_plain (f : FuncId) (fn : Func) (hf : Tryd.pinned.checked.prog.funcNamed Rows.faultTellsRow.func = some f) (hfn : Tryd.pinned.checked.prog.funcs[f]? = some fn) :
    true = Tryd.pinned.checked.prog.looks [] ∧ ∀ (j : Nat) t, fn.params[j]? = some t → Tryd.pinned.checked.prog.wantsStandIn t = false := by
  obtain rfl : f = 3 := Option.some.inj ((show Tryd.prog.funcNamed Rows.faultTellsRow.func = some 3 by kernel_rfl).symm.trans hf) |>.symm
  obtain rfl : fn = Tryd.f3 := (Option.some.inj (Tryd.func3.symm.trans hfn)).symm
  refine ⟨by kernel_rfl, fun j t ht => ?_⟩
  rw [Tryd.params3] at ht
  have hm := Array.mem_of_getElem? ht
  simp at hm
  rcases hm with rfl | rfl
  · exact (show Tryd.prog.wantsStandIn 22 = false by kernel_rfl)
  · exact (show Tryd.prog.wantsStandIn 3 = false by kernel_rfl)

/-- THE CARD. -/
theorem faultTells_card : Rows.FaultTellsCardSaid :=
  Claim7.holds_tied_plain_at .later [] _ _ _ _ faultTells_said (fun _ h => by cases h) (by kernel_rfl) (fun _ h => by cases h) faultTells_row_tie rfl ⟨rfl, rfl⟩ (by kernel_rfl) rfl faultTells_plain (by kernel_rfl)
#print axioms faultTells_card
end Go.Proofs.YtdcinnoebendgaaDoor
