/-
  The Go function lexiphanelaw1.FaultOthers returns true for every text, every code, every place and every kind: of errors of other kinds (an Other, a pointer to one, a pointer to a Fault, an error of fmt.Errorf that wraps a Fault) Of tells nothing, Code tells ErrState, and Must panics, as it does of nil.
  Conditions: none on the arguments, none on what the tables of Go's library hold (the table internal/strconv.uint64pow10 may hold whatever numbers of its type). A told card: the road passes fmt.Errorf, whose text is told by a function of the authors' own; nothing of that text is used here.
-/
import Derived.Test.YtfalihhbcpjmgaaFmtWrap
import Derived.Test.YtfalihhbcpjmgaaFmtCards
import Derived.Stop.JoinedShaped
import Derived.Stop.JoinedAt
import Derived.Stop.JoinedTold
import Derived.SevenToldRow
import Derived.ShutString
namespace Go.Proofs.YtfalihhbcpjmgaaFmt
open Go.ChangeShapes Go.WideShapes Go.ChangeAt Go.RowKit
open Go.ChangeMaps (open_string shut_string)

theorem fo_long (words : ByteArray) (c a k : Int) (hw : 60 < words.size) (w : World) :
    Calls Tryf.prog 3 #[.string words, .int .i64 c, .int .i64 a, .int .i64 k] w fun e w' => e = .returned (.bool true) ∧ Below w.heap.size w w' := by
  go_enter Tryf.func3, Tryf.ntmps3
  go_wp2_with (first | (go_at_call 4; refine (alive_any _).mono ?_; rintro e w1 ⟨rfl, hb1⟩))
  go_ret
  exact ⟨rfl, hb1⟩

theorem other_any (words : ByteArray) (w : World) :
    Calls Tryf.prog 45 #[.agg #[.string words]] w fun e w' => e = .returned (.string words) ∧ Below w.heap.size w w' := by
  go_enter Tryf.func45, Tryf.ntmps45
  go_wp2
  go_ret
  exact ⟨rfl, (Below.refl _ _).alloc (Nat.le_refl _) _⟩

/-- What was laid ahead of two calls is there behind them. -/
theorem held0 {w3 w4 w5 : World} (hb4 : Below (w3.alloc (.cells #[.int .i64 0, .int .i64 0] 25)).heap.size (w3.alloc (.cells #[.int .i64 0, .int .i64 0] 25)) w4)
    (hb5 : Below (w4.alloc (.cells #[.int .i64 0, .int .i64 0] 25)).heap.size (w4.alloc (.cells #[.int .i64 0, .int .i64 0] 25)) w5) (o : Nat) (ho : o < 2) :
    (w5.alloc (.cells #[.int .i64 0, .int .i64 0] 25)).cell? ⟨w3.heap.size, o, none⟩ = some (.int .i64 0) := by
  have al : ∀ (W : World) (O : Obj) p v, W.cell? p = some v → (W.alloc O).cell? p = some v := fun W O p v h => by
    rw [World.cell?_alloc_lt _ _ _ (World.block_lt_of_cell? W p h)]; exact h
  refine al _ _ _ _ (keeps hb5 _ _ (al _ _ _ _ (keeps hb4 _ _ ?_)))
  have h2 : o = 0 ∨ o = 1 := by omega
  rcases h2 with rfl | rfl <;> simp [go_sem]
theorem last0 {w w3 w4 w5 : World} (h3 : Below w.heap.size w w3) (hb4 : Below (w3.alloc (.cells #[.int .i64 0, .int .i64 0] 25)).heap.size (w3.alloc (.cells #[.int .i64 0, .int .i64 0] 25)) w4)
    (hb5 : Below (w4.alloc (.cells #[.int .i64 0, .int .i64 0] 25)).heap.size (w4.alloc (.cells #[.int .i64 0, .int .i64 0] 25)) w5) :
    Below w.heap.size w (w5.alloc (.cells #[.int .i64 0, .int .i64 0] 25)) := by
  have a4 := onto (h3.alloc h3.size _) hb4
  have a5 := onto (a4.alloc a4.size _) hb5
  exact a5.alloc a5.size _

set_option maxHeartbeats 4000000 in
theorem fo_0 (words : ByteArray) (c a k : Int) (hw : words.size ≤ 60) (hk0 : ((wrap64 (k.tmod 4 + 4)).tmod 4 == 0) = true) (w : World) :
    Calls Tryf.prog 3 #[.string words, .int .i64 c, .int .i64 a, .int .i64 k] w fun e w' => e = .returned (.bool true) ∧ Below w.heap.size w w' := by
  go_enter Tryf.func3, Tryf.ntmps3
  go_wp2_with (first | (go_at_call 4; refine (alive_any _).mono ?_; rintro e w1 ⟨rfl, hb1⟩) | (go_at_call 45; refine (other_any _ _).mono ?_; rintro e w2 ⟨rfl, hb2⟩) | (go_at_call 6; refine (of_ot _ _).mono ?_; rintro e w3 ⟨rfl, hb3⟩) | (go_at_call 7; have _h := later; refine (must_nil _).mono ?_; rintro e w5 ⟨rfl, hb5⟩; have c0 := held0 hb4 hb5 0 (by decide); have c1 := held0 hb4 hb5 1 (by decide)) | (go_at_call 7; refine (must_ot _ _).mono ?_; rintro e w4 ⟨rfl, hb4⟩; have later := True.intro) | (go_at_call 8; have _h2 := later2; refine (code_nil _).mono ?_; rintro e w7 ⟨rfl, rfl⟩) | (go_at_call 8; refine (code_ot _ _).mono ?_; rintro e w6 ⟨rfl, hb6⟩; have later2 := True.intro))
  go_ret
  have h3 : Below w.heap.size w w3 := onto (onto (hb1.alloc hb1.size _) hb2) hb3
  exact ⟨rfl, onto (last0 h3 hb4 hb5) hb6⟩

set_option maxHeartbeats 4000000 in
theorem fo_1 (words : ByteArray) (c a k : Int) (hw : words.size ≤ 60) (hk0 : ((wrap64 (k.tmod 4 + 4)).tmod 4 == 0) = false) (hk1 : ((wrap64 (k.tmod 4 + 4)).tmod 4 == 1) = true) (w : World) :
    Calls Tryf.prog 3 #[.string words, .int .i64 c, .int .i64 a, .int .i64 k] w fun e w' => e = .returned (.bool true) ∧ Below w.heap.size w w' := by
  go_enter Tryf.func3, Tryf.ntmps3
  go_wp2_with (first | (go_at_call 4; refine (alive_any _).mono ?_; rintro e w1 ⟨rfl, hb1⟩) | (go_at_call 6; refine (of_pf _ _).mono ?_; rintro e w3 ⟨rfl, hb3⟩) | (go_at_call 7; have _h := later; refine (must_nil _).mono ?_; rintro e w5 ⟨rfl, hb5⟩; have c0 := held0 hb4 hb5 0 (by decide); have c1 := held0 hb4 hb5 1 (by decide)) | (go_at_call 7; refine (must_pf _ _).mono ?_; rintro e w4 ⟨rfl, hb4⟩; have later := True.intro) | (go_at_call 8; have _h2 := later2; refine (code_nil _).mono ?_; rintro e w7 ⟨rfl, rfl⟩) | (go_at_call 8; refine (code_pf _ _).mono ?_; rintro e w6 ⟨rfl, hb6⟩; have later2 := True.intro))
  go_ret
  have h3 : Below w.heap.size w w3 := onto (hb1.alloc hb1.size _) hb3
  exact ⟨rfl, onto (last0 h3 hb4 hb5) hb6⟩

/-- The same at the block that the call lays. -/
theorem errorf_at (F : Stop.Interp) (c a : Int) (h0 : -9223372036854775808 ≤ a) (h1 : a ≤ 9223372036854775807) (w w1 : World) (hF : F.answers w.tape) (ht : Tab w) (hb : Below w.heap.size w w1) :
    Calls Tryf.prog 5 #[.string ⟨#[97, 116, 32, 37, 119]⟩, .slice (some ⟨w1.heap.size + 1, 0, none⟩) 1 1] ((w1.alloc (.cells #[.int .i64 c, .int .i64 a] 25)).alloc (.cells #[.iface 25 (.agg #[.int .i64 c, .int .i64 a])] 20)) fun e w' => ∃ q, e = .returned (.iface 42 (.pointer (some q))) ∧ Below w.heap.size w w' := by
  have b2 := (hb.alloc hb.size (.cells #[.int .i64 c, .int .i64 a] 25)).alloc (by have := hb.size; simp; omega) (.cells #[.iface 25 (.agg #[.int .i64 c, .int .i64 a])] 20)
  refine (errorf_some F c a h0 h1 (w1.heap.size + 1) _ (by rw [b2.tape]; exact hF) (ht.on b2) (by simp [go_sem])).mono ?_
  rintro e w' ⟨q, rfl, h⟩
  exact ⟨q, rfl, onto b2 h⟩

set_option maxHeartbeats 4000000 in
theorem fo_2 (F : Stop.Interp) (words : ByteArray) (c a k : Int) (hw : words.size ≤ 60) (hk0 : ((wrap64 (k.tmod 4 + 4)).tmod 4 == 0) = false) (hk1 : ((wrap64 (k.tmod 4 + 4)).tmod 4 == 1) = false) (hk2 : ((wrap64 (k.tmod 4 + 4)).tmod 4 == 2) = true) (h0 : -9223372036854775808 ≤ a) (h1 : a ≤ 9223372036854775807) (w : World) (hF : F.answers w.tape) (ht : Tab w) :
    Calls Tryf.prog 3 #[.string words, .int .i64 c, .int .i64 a, .int .i64 k] w fun e w' => e = .returned (.bool true) ∧ Below w.heap.size w w' := by
  have HF := Lib.hid hF
  have HT := Lib.hid ht
  clear hF ht
  go_enter Tryf.func3, Tryf.ntmps3
  go_wp2_with (first | (go_at_call 4; refine (alive_any _).mono ?_; rintro e w1 ⟨rfl, hb1⟩) | (go_at_call 5; refine (errorf_at F c a h0 h1 w w1 HF.out HT.out hb1).mono ?_; rintro e w2 ⟨q, rfl, hb2⟩) | (go_at_call 6; refine (of_we _ _).mono ?_; rintro e w3 ⟨rfl, hb3⟩) | (go_at_call 7; have _h := later; refine (must_nil _).mono ?_; rintro e w5 ⟨rfl, hb5⟩; have c0 := held0 hb4 hb5 0 (by decide); have c1 := held0 hb4 hb5 1 (by decide)) | (go_at_call 7; refine (must_we _ _).mono ?_; rintro e w4 ⟨rfl, hb4⟩; have later := True.intro) | (go_at_call 8; have _h2 := later2; refine (code_nil _).mono ?_; rintro e w7 ⟨rfl, rfl⟩) | (go_at_call 8; refine (code_we _ _).mono ?_; rintro e w6 ⟨rfl, hb6⟩; have later2 := True.intro))
  go_ret
  have h3 : Below w.heap.size w w3 := onto hb2 hb3
  exact ⟨rfl, onto (last0 h3 hb4 hb5) hb6⟩

set_option maxHeartbeats 4000000 in
theorem fo_3 (words : ByteArray) (c a k : Int) (hw : words.size ≤ 60) (hk0 : ((wrap64 (k.tmod 4 + 4)).tmod 4 == 0) = false) (hk1 : ((wrap64 (k.tmod 4 + 4)).tmod 4 == 1) = false) (hk2 : ((wrap64 (k.tmod 4 + 4)).tmod 4 == 2) = false) (w : World) :
    Calls Tryf.prog 3 #[.string words, .int .i64 c, .int .i64 a, .int .i64 k] w fun e w' => e = .returned (.bool true) ∧ Below w.heap.size w w' := by
  go_enter Tryf.func3, Tryf.ntmps3
  go_wp2_with (first | (go_at_call 4; refine (alive_any _).mono ?_; rintro e w1 ⟨rfl, hb1⟩) | (go_at_call 6; refine (of_po _ _).mono ?_; rintro e w3 ⟨rfl, hb3⟩) | (go_at_call 7; have _h := later; refine (must_nil _).mono ?_; rintro e w5 ⟨rfl, hb5⟩; have c0 := held0 hb4 hb5 0 (by decide); have c1 := held0 hb4 hb5 1 (by decide)) | (go_at_call 7; refine (must_po _ _).mono ?_; rintro e w4 ⟨rfl, hb4⟩; have later := True.intro) | (go_at_call 8; have _h2 := later2; refine (code_nil _).mono ?_; rintro e w7 ⟨rfl, rfl⟩) | (go_at_call 8; refine (code_po _ _).mono ?_; rintro e w6 ⟨rfl, hb6⟩; have later2 := True.intro))
  go_ret
  have h3 : Below w.heap.size w w3 := onto ((hb1.alloc hb1.size _).alloc (by have := hb1.size; simp; omega) _) hb3
  exact ⟨rfl, onto (last0 h3 hb4 hb5) hb6⟩

theorem fo_walk (F : Stop.Interp) (words : ByteArray) (c a k : Int) (wa : (Lit.int .i64 a).wf = true) (w : World) (hF : F.answers w.tape) (ht : Tab w) :
    Calls Tryf.prog 3 #[.string words, .int .i64 c, .int .i64 a, .int .i64 k] w fun e w' => e = .returned (.bool true) ∧ Below w.heap.size w w' := by
  have hr := bounds_i64 wa
  by_cases hw : 60 < words.size
  · exact fo_long words c a k hw w
  · cases hk0 : ((wrap64 (k.tmod 4 + 4)).tmod 4 == 0) with
    | true => exact fo_0 words c a k (by omega) hk0 w
    | false =>
      cases hk1 : ((wrap64 (k.tmod 4 + 4)).tmod 4 == 1) with
      | true => exact fo_1 words c a k (by omega) hk0 hk1 w
      | false =>
        cases hk2 : ((wrap64 (k.tmod 4 + 4)).tmod 4 == 2) with
        | true => exact fo_2 F words c a k (by omega) hk0 hk1 hk2 (by omega) (by omega) w hF ht
        | false => exact fo_3 words c a k (by omega) hk0 hk1 hk2 w

set_option linter.unusedVariables false
theorem faultOthers_own : ownKnob Tryf.prog.godebug = none := by kernel_rfl

theorem faultOthers_contract (H : Type) (enc : TypeId × Value → H) (F : Stop.Interp) (W : World) (base : Nat) (args : Array Value) (ds gs : List (DataW H)) (before : List MemPlace) (hF : F.answers W.tape) (hsh : W.ShapedOpen Tryf.prog)
    (hval : ∀ (j : Nat) t v, Tryf.f3.params[j]? = some t → args[j]? = some v → Value.okWide Tryf.prog W .any base t v)
    (hW : DataW.Whole enc Tryf.prog Tryf.f3.params.toList Rows.faultOthersSpec.vars false W args.toList ds gs before) :
    Calls Tryf.prog 3 args W fun e W' => ∃ v, e = .returned v ∧ Rows.faultOthersSpec.post enc Tryf.prog Tryf.f3 false true false false W args v W' := by
  have hW' := hW
  obtain ⟨p, q, hA0, hV, rfl, hfz, hnd⟩ := hW
  have hA : DataW.TrodAll enc Tryf.prog W 0 (fun _ => true) true Tryf.f3.params.toList args.toList ds p := hA0
  rw [Tryf.params3] at hA hval
  obtain ⟨v0, vs0, d0, ds0, p0, q0, hargs, rfl, rfl, h0, r0⟩ := trodAll_cons hA
  obtain ⟨v1, vs1, d1, ds1, p1, q1, rfl, rfl, rfl, h1, r1⟩ := trodAll_cons r0
  obtain ⟨v2, vs2, d2, ds2, p2, q2, rfl, rfl, rfl, h2, r2⟩ := trodAll_cons r1
  obtain ⟨v3, vs3, d3, ds3, p3, q3, rfl, rfl, rfl, h3, r3⟩ := trodAll_cons r2
  obtain ⟨rfl, rfl, rfl⟩ := trodAll_nil r3
  obtain rfl : args = #[v0, v1, v2, v3] := by cases args; simp_all
  obtain ⟨rfl, rfl⟩ := trodVars_none hV
  obtain ⟨a0, rfl, rfl, rfl, w0⟩ := open_string Tryf.underlying9 (hval 0 9 v0 rfl rfl) h0
  obtain ⟨a1, rfl, rfl, rfl, w1⟩ := open_int Tryf.underlying22 (hval 1 22 v1 rfl rfl) h1
  obtain ⟨a2, rfl, rfl, rfl, w2⟩ := open_int Tryf.underlying3 (hval 2 3 v2 rfl rfl) h2
  obtain ⟨a3, rfl, rfl, rfl, w3⟩ := open_int Tryf.underlying3 (hval 3 3 v3 rfl rfl) h3
  clear hA0
  refine (fo_walk F a0 a1 a2 a3 w2 W hF (tab_of_shaped hsh)).mono fun e W' ⟨he, bel⟩ => ?_
  subst he
  exact ⟨_, rfl, _, _, _, [], _, [], hW', trodAll_mk1 (shut_bool Tryf.underlying4 _), (trodAll_cons_mk (shut_string Tryf.underlying9 w0) (trodAll_cons_mk (shut_int Tryf.underlying22 w1) (trodAll_cons_mk (shut_int Tryf.underlying3 w2) (trodAll_cons_mk (shut_int Tryf.underlying3 w3) trodAll_mk0)))), rfl, bel.frame _, fun h => by cases h⟩

set_option maxRecDepth 100000 in
theorem faultOthers_lifted (os : Os) (started : os.Started) (H : Type) (enc : TypeId × Value → H) :
    ReturnsInTold none {} Tryf.checked os 3 .any Input.okWide ((OpenSpec.ofChange Rows.faultOthersSpec).preRow enc Tryf.prog Tryf.f3 [] false []) (fun F => ((OpenSpec.ofChange Rows.faultOthersSpec).at F).post enc Tryf.prog Tryf.f3 false true false false) (aloneAtReturn Tryf.prog) nothingAlways := by
  have key : ReturnsInStopped none {} Tryf.checked os 3 .any Input.okWide ((OpenSpec.ofChange Rows.faultOthersSpec).preRow enc Tryf.prog Tryf.f3 [] false []) (fun F => ((OpenSpec.ofChange Rows.faultOthersSpec).at F).post enc Tryf.prog Tryf.f3 false true false false) (aloneAtReturn Tryf.prog) nothingAlways := by
    refine returnsInStopped_of_row_shaped (C := Tryf.checked) (s := OpenSpec.ofChange Rows.faultOthersSpec) (by kernel_rfl) faultOthers_own started (by kernel_rfl) Tryf.func3
      (OpenSpec.witness_stopped (enc := enc) (C := Tryf.checked) false ⟨#[], #[.string ⟨#[]⟩, .int .i64 0, .int .i64 0, .int .i64 0], []⟩ 8 (by kernel_rfl) (by kernel_rfl) (by kernel_rfl) (by kernel_rfl)) ?_
    intro F W base args ds gs before _ hF hval hW _ _ _ _ hsh _
    exact faultOthers_contract H enc F W base args ds gs before hF hsh hval hW
  intro F
  exact key F.told

theorem fo_laidOut : laidOutB Tryf.pinned.checked.prog = true := by kernel_rfl
theorem fo_stops : Tryf.pinned.checked.prog.stops = ["fmt.errorf, its operands' methods called"] := by kernel_rfl
theorem fo_stopKnobs : Tryf.pinned.checked.prog.stopKnobs = [] := by kernel_rfl
theorem fo_quiet (os : Os) : Stop.quiet Tryf.pinned.checked.prog os := by
  intro k hk
  rw [fo_stopKnobs] at hk
  cases hk

/-- THE CARD. -/
theorem faultOthers_told : Rows.FaultOthersToldSaid :=
  Claim7.holds_of_told_any 3 Tryf.f3 "fmt.errorf, its operands' methods called" [] [] _ _ _ (by kernel_rfl) rfl rfl rfl fo_laidOut (by kernel_rfl) rfl ⟨rfl, rfl, rfl, rfl, rfl, rfl, rfl⟩ rfl rfl (by kernel_rfl) (by kernel_rfl) Tryf.func3 (by kernel_rfl)
    (of_decide_eq_true (by kernel_rfl)) (of_decide_eq_true (by kernel_rfl)) fo_stops.symm rfl fo_stopKnobs.symm (by kernel_rfl)
    (by kernel_rfl) (by kernel_rfl) (by kernel_rfl) (by kernel_rfl) (by kernel_rfl) (by kernel_rfl) (by kernel_rfl) (by kernel_rfl) (by kernel_rfl) rfl (by kernel_rfl) rfl rfl
    rfl rfl
    rfl (by kernel_rfl) (by kernel_rfl) (by kernel_rfl) (by decide) (by kernel_rfl)
    (OpenClaim.moreEntering_of (by kernel_rfl) (by kernel_rfl) (by kernel_rfl) (by kernel_rfl) (by kernel_rfl) (by kernel_rfl) (by kernel_rfl) (by kernel_rfl) (by kernel_rfl) (by kernel_rfl))
    ⟨_, WideRow.started_initial, fo_quiet _⟩
    (fun os started _ H enc _ => faultOthers_lifted os started H enc)
#print axioms faultOthers_told

end Go.Proofs.YtfalihhbcpjmgaaFmt
