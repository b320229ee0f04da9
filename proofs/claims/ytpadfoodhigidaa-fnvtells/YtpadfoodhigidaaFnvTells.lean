/-
  The Go function lexiphanelaw5.FnvTells returns true for every list of texts: the name of all bytes, at once, and in whichever pieces, is the document's.
  No condition: whatever the input, in whatever memory; the arguments read as before.
-/
import Derived.Test.YtpadfoodhigidaaFnv
import Derived.Deep.Strs
import Derived.ChangeOld
namespace Go.Proofs.Ytpadfoodhigidaa
open Go.ChangeShapes Go.WideShapes Go.ChangeAt Go.RowKit

/-- A list of texts that came in. -/
def IsStrs (w : World) (a : Option Addr) (len : Nat) (z : Nat → ByteArray) : Prop :=
  len = 0 ∨ ∃ b off, a = some ⟨b, off, none⟩ ∧ b < w.heap.size ∧ ∀ i, i < len → w.cell? ⟨b, off + i, none⟩ = some (.string (z i))

theorem Try.cellsStr : Try.prog.cellsOf 9 = 1 := by kernel_rfl

theorem open_texts {H : Type} {enc : TypeId × Value → H} {W : World} {base fuel : Nat} {spare : Nat → Bool} {held : Bool} {a : Option Addr} {len cap : Nat} {x : DataW H × List MemPlace}
    (h : DataW.trod enc Try.prog W base spare held fuel 22 [.slice a len cap] = some x) : ∃ z, IsStrs W a len z := by
  by_cases h0 : len = 0
  · exact ⟨fun _ => ⟨#[]⟩, .inl h0⟩
  rcases Go.Deep.open_strs Try.underlying22 Try.underlying9 Try.cellsStr h with ⟨hcs, _⟩ | ⟨ad, l, c, m, zs, hcs, _, hl, _, hm, _, hcell⟩
  · simp only [List.cons.injEq, Value.slice.injEq, and_true] at hcs
    omega
  · simp only [List.cons.injEq, Value.slice.injEq, and_true] at hcs
    obtain ⟨rfl, rfl, rfl⟩ := hcs
    have hlm : len ≤ m := by rw [hm]; split <;> omega
    obtain ⟨b, off, spot⟩ := ad
    have hspot : spot = none := by simpa [Addr.add] using World.cell?_spot (hcell 0 (by omega)).1
    subst hspot
    refine ⟨zs, .inr ⟨b, off, rfl, ?_, fun i hi => ?_⟩⟩
    · exact World.block_lt_of_cell? W _ (by have := (hcell 0 (by omega)).1; rw [Go.WideShapes.add_plain] at this; exact this)
    · have := (hcell i (by omega)).1
      rwa [Go.WideShapes.add_plain] at this

set_option maxRecDepth 20000 in
set_option maxHeartbeats 4000000 in
theorem tells_walk (a : Option Addr) (len cap : Nat) (z : Nat → ByteArray) (w : World) (hin : IsStrs w a len z) : Calls Try.prog 3 #[.slice a len cap] w fun e w' => e = .returned (.bool true) ∧ Below w.heap.size w w' := by
  by_cases hlen : len ≤ 40
  · have HI : Hid (IsStrs w a len z) := hin
    clear hin
    go_enter Try.func3, Try.ntmps3
    go_wp2_with (go_at_call 7; refine (alive_any _).mono ?_; rintro e w1 ⟨rfl, hb1⟩)
    go_loopw [4, 20] (fun va vi wr => ∃ (i : Nat) (t : ByteArray), va = .string t ∧ vi = .int .i64 i ∧ i ≤ len ∧ t.size ≤ 600 * i ∧ HashAt wr w1.heap.size (fnv t) ∧ Below w.heap.size w wr) (fun _ vi _ => len - (intOf vi).toNat)
    case atStart => exact ⟨0, ⟨#[]⟩, rfl, rfl, by omega, by simp [ByteArray.size], HashAt.new w1, hb1.alloc hb1.size _⟩
    case round =>
      obtain ⟨i, t, rfl, rfl, hil, hts, hsum, hbl⟩ := hrel
      have hp := hb1.size
      by_cases hlt : i < len
      · rcases HI.out with h | ⟨gb, o, rfl, hgb, hcell⟩
        · omega
        have hcb : wr.cell? ⟨gb, o + i, none⟩ = some (.string (z i)) := by rw [hbl.cell (p := ⟨gb, o + i, none⟩) hgb, hcell i hlt]
        clear hcell
        generalize z i = b at hcb
        by_cases hb : b.size ≤ 600
        · have hsz : (t ++ b).size ≤ 600 * (i + 1) := by rw [ByteArray.size_append]; omega
          have hadd : ∀ w : World, (Op.stringOp .add t b).run Try.prog w = .ok (.string (t ++ b)) w := fun w =>
            run_string_add_sum (P := Try.prog) (w := w) _ _ (by omega)
          go_wp2_with (first
            | (have _h := l3; go_at_call 10; refine (ref_any b (by omega) _).mono ?_; rintro e w6 ⟨rfl, rfl⟩)
            | (have _h := l2; go_at_call 11; refine (of_any b (by omega) _).mono ?_; rintro e w5 ⟨rfl, hb5⟩; have l3 : True := trivial)
            | (have _h := l1; go_at_call 10; refine (ref_any (t ++ b) (by omega) _).mono ?_; rintro e w4 ⟨rfl, rfl⟩; have l2 : True := trivial)
            | (have _h := hs2; go_at_call 9; refine (now_any hs2).mono ?_; rintro e w3 ⟨rfl, rfl⟩; have l1 : True := trivial)
            | (go_at_call 8; refine (add_more hsum b (by omega)).mono ?_; rintro e w2 ⟨rfl, hs2, hk2⟩))
          go_roundw
          case rel => exact ⟨i + 1, t ++ b, rfl, by go_num, by omega, hsz, hs2.below hb5 hs2.lt, below_more (below_then hbl hk2 hp) hb5⟩
          case measure => simp [intOf]; omega
        · go_wp2
          go_ret
          exact ⟨rfl, hbl⟩
      · go_wp2_with (first
          | (have _h := l7; go_at_call 9; refine (now_nil _).mono ?_; rintro e w11 ⟨rfl, rfl⟩)
          | (have _h := l6; go_at_call 11; refine (of_any t (by omega) _).mono ?_; rintro e w10 ⟨rfl, hb10⟩; have l7 : True := trivial)
          | (have _h := l4; go_at_call 9; refine (now_any hsum).mono ?_; rintro e w9 ⟨rfl, rfl⟩; have l6 : True := trivial)
          | (go_at_call 8; refine (add_nil t _).mono ?_; rintro e w7 ⟨rfl, rfl⟩; have l4 : True := trivial))
        go_ret
        exact ⟨rfl, below_more hbl hb10⟩
  · go_enter Try.func3, Try.ntmps3
    go_wp2_with (go_at_call 7; refine (alive_any _).mono ?_; rintro e w1 ⟨rfl, hb1⟩)
    go_ret
    exact ⟨rfl, hb1⟩

set_option linter.unusedVariables false
theorem fnvTells_own : ownKnob Try.prog.godebug = none := by kernel_rfl

theorem fnvTells_laidOut : laidOutB Try.prog = true := by kernel_rfl

set_option maxRecDepth 100000 in
theorem fnvTells_lifted (os : Os) (started : os.Started) (H : Type) (enc : TypeId × Value → H) :
    ReturnsInHanded {} Try.checked os 3 .any (Rows.fnvTellsSpec.pre6 enc Try.prog Try.f3 Rows.fnvTellsRow.domain false) (Rows.fnvTellsSpec.post enc Try.prog Try.f3 false true false false) := by
  refine returnsInHanded_of_change (C := Try.checked) fnvTells_own started (by kernel_rfl) Try.func3
    (ChangeSpec.witness6 (enc := enc) (C := Try.checked) false ⟨#[], #[.slice none 0 0], []⟩ 8 (by kernel_rfl) (by kernel_rfl) (by kernel_rfl) (by kernel_rfl)) ?_
  intro W base args ds gs before hval0 hW hcnd _
  have hval : ∀ (j : Nat) t v, Try.f3.params[j]? = some t → args[j]? = some v → Value.okWide Try.prog W .any base t v := hval0
  have hW' := hW
  obtain ⟨p, q, hA0, hV, rfl, hfz, hnd⟩ := hW
  have hA : DataW.TrodAll enc Try.prog W 0 (fun _ => true) true Try.f3.params.toList args.toList ds p := hA0
  rw [Try.params3] at hA hval
  obtain ⟨v0, vs0, d0, ds0, p0, q0, hargs, rfl, rfl, h0, r0⟩ := trodAll_cons hA
  obtain ⟨rfl, rfl, rfl⟩ := trodAll_nil r0
  obtain rfl : args = #[v0] := by cases args; simp_all
  obtain ⟨rfl, rfl⟩ := trodVars_none hV
  obtain ⟨a0, len0, cap0, rfl⟩ := okWide_slice Try.underlying22 (hval 0 22 v0 rfl rfl)
  have k0 := h0
  have lt0 : ∀ x ∈ p0, x.block < W.heap.size := by obtain ⟨m, hm⟩ := k0; exact DataW.trod_lt m _ _ _ hm
  obtain ⟨z0, w0⟩ := h0.elim (fun _ hf => open_texts hf)
  clear hA0 hval0
  refine (tells_walk a0 len0 cap0 z0 W w0).mono fun e W' ⟨he, bel⟩ => ?_
  subst he
  exact ⟨_, rfl, _, _, _, [], _, [], hW', trodAll_mk1 (shut_bool Try.underlying4 _), (trodAll_cons_mk (Below.trod fnvTells_laidOut (by kernel_rfl) (of_decide_eq_true (by kernel_rfl)) k0 bel lt0) trodAll_mk0), rfl, bel.frame _, fun h => by cases h⟩

/-- THE STATEMENT. -/
theorem fnvTells_holds : Rows.FnvTellsSaid :=
  OpenClaim.holds_of_wide 3 Try.f3 rfl rfl rfl rfl rfl rfl rfl ⟨rfl, rfl, rfl, rfl, rfl⟩ rfl rfl rfl rfl rfl (by kernel_rfl) Try.func3 (by kernel_rfl)
    (of_decide_eq_true (by kernel_rfl)) (by unfold Func.isWrapper; first | (rw [if_pos (by decide +kernel)]; kernel_rfl) | (rw [if_neg (by decide +kernel)]; exact ⟨rfl, rfl⟩))
    (fun os started H enc _ => fnvTells_lifted os started H enc)
#print axioms fnvTells_holds
end Go.Proofs.Ytpadfoodhigidaa
