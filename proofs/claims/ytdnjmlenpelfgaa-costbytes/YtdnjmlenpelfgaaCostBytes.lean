/-
  CostBytes: a token's bits are eight for each byte of its number. For every number.
  No condition: whatever the input, in whatever memory; the arguments read as before.
-/
import Derived.Test.YtdnjmlenpelfgaaAlive12
namespace Go.Proofs.Ytdnjmlenpelfgaa
open Go.ChangeShapes Go.WideShapes Go.ChangeAt Go.RowKit

theorem bytes_walk (x : Int) (w : World) : Calls Try.prog 6 #[.int .i64 x] w fun e w' => e = .returned (.bool true) ∧ Below w.heap.size w w' := by
  obtain ⟨t, ht⟩ : ∃ t, t = tk x := ⟨_, rfl⟩
  obtain ⟨b, hb⟩ : ∃ b, b = bt x := ⟨_, rfl⟩
  have HO := hid (fun W => of_any x W)
  rw [← ht, ← hb] at HO
  have h1 := tk_le x
  have h2 := bt_le x
  rw [← ht] at h1
  rw [← hb] at h2
  have e1 := eq_self t (by omega)
  have e2 := eq_self b (by omega)
  have c1 := fun W => conv_fN W t
  have c2 := fun W => conv_fN W b
  have HT := hid (fun W => tokens_in t b (by omega) W)
  have HB := hid (fun W => bits_in t b (by omega) W)
  rcases in_or_out x with ⟨n, rfl, hn⟩ | hn
  · rw [tk_in n hn] at ht
    rw [bt_in n hn] at hb
    have hp := vlen_pos n
    obtain ⟨v, hv⟩ : ∃ v, v = vlen n := ⟨_, rfl⟩
    rw [← hv] at hb hp
    have HL := hid (fun W => len_in n hn W)
    rw [← hv] at HL
    have hm : (8 : Int) * (v : Int) = (b : Int) := by omega
    have ht1 : ((t : Int) == 1) = true := beq_iff_eq.2 (by omega)
    have hd : decide ((0 : Int) < (v : Int)) = true := decide_eq_true (by omega)
    have hv5 : v ≤ 5 := by omega
    clear ht hv hb
    go_enter Try.func6, Try.ntmps6
    go_wp2_with (first
      | (go_at_call 8; refine (alive_any _).mono ?_; rintro e w1 ⟨rfl, hb1⟩)
      | (go_at_call 12; refine (HO.out _).mono ?_; rintro e w2 ⟨rfl, rfl⟩)
      | (go_at_call 13; refine (HT.out _).mono ?_; rintro e w2 ⟨rfl, rfl⟩)
      | (go_at_call 14; refine (HB.out _).mono ?_; rintro e w2 ⟨rfl, rfl⟩)
      | (go_at_call 18; refine (HL.out _).mono ?_; rintro e w2 ⟨rfl, rfl⟩))
    go_ret
    exact ⟨rfl, hb1⟩
  · rw [tk_out x hn] at ht
    rw [bt_out x hn] at hb
    subst ht
    subst hb
    go_enter Try.func6, Try.ntmps6
    go_wp2_with (first
      | (go_at_call 8; refine (alive_any _).mono ?_; rintro e w1 ⟨rfl, hb1⟩)
      | (go_at_call 12; refine (HO.out _).mono ?_; rintro e w2 ⟨rfl, rfl⟩)
      | (go_at_call 13; refine (HT.out _).mono ?_; rintro e w2 ⟨rfl, rfl⟩)
      | (go_at_call 14; refine (HB.out _).mono ?_; rintro e w2 ⟨rfl, rfl⟩)
      | (go_at_call 18; refine (len_out x hn _).mono ?_; rintro e w2 ⟨rfl, rfl⟩))
    go_ret
    exact ⟨rfl, hb1⟩

set_option linter.unusedVariables false
theorem costBytes_own : ownKnob Try.prog.godebug = none := by kernel_rfl

set_option maxRecDepth 100000 in
theorem costBytes_lifted (os : Os) (started : os.Started) (H : Type) (enc : TypeId × Value → H) :
    ReturnsInHanded {} Try.checked os 6 .any (Rows.costBytesSpec.pre6 enc Try.prog Try.f6 Rows.costBytesRow.domain false) (Rows.costBytesSpec.post enc Try.prog Try.f6 false true false false) := by
  refine returnsInHanded_of_change (C := Try.checked) costBytes_own started (by kernel_rfl) Try.func6
    (ChangeSpec.witness6 (enc := enc) (C := Try.checked) false ⟨#[], #[.int .i64 0], []⟩ 8 (by kernel_rfl) (by kernel_rfl) (by kernel_rfl) (by kernel_rfl)) ?_
  intro W base args ds gs before hval0 hW hcnd _
  have hval : ∀ (j : Nat) t v, Try.f6.params[j]? = some t → args[j]? = some v → Value.okWide Try.prog W .any base t v := hval0
  have hW' := hW
  obtain ⟨p, q, hA0, hV, rfl, hfz, hnd⟩ := hW
  have hA : DataW.TrodAll enc Try.prog W 0 (fun _ => true) true Try.f6.params.toList args.toList ds p := hA0
  rw [Try.params6] at hA hval
  obtain ⟨v0, vs0, d0, ds0, p0, q0, hargs, rfl, rfl, h0, r0⟩ := trodAll_cons hA
  obtain ⟨rfl, rfl, rfl⟩ := trodAll_nil r0
  obtain rfl : args = #[v0] := by cases args; simp_all
  obtain ⟨rfl, rfl⟩ := trodVars_none hV
  obtain ⟨a0, rfl, rfl, rfl, w0⟩ := open_int Try.underlying3 (hval 0 3 v0 rfl rfl) h0
  clear hA0 hval0
  refine (bytes_walk a0 W).mono fun e W' ⟨he, bel⟩ => ?_
  subst he
  exact ⟨_, rfl, _, _, _, [], _, [], hW', trodAll_mk1 (shut_bool Try.underlying4 _), (trodAll_cons_mk (shut_int Try.underlying3 w0) trodAll_mk0), rfl, bel.frame _, fun h => by cases h⟩

/-- THE STATEMENT. -/
theorem costBytes_holds : Rows.CostBytesSaid :=
  OpenClaim.holds_of_wide 6 Try.f6 rfl rfl rfl rfl rfl rfl rfl ⟨rfl, rfl, rfl, rfl, rfl⟩ rfl rfl rfl rfl rfl (by kernel_rfl) Try.func6 (by kernel_rfl)
    (of_decide_eq_true (by kernel_rfl)) (by unfold Func.isWrapper; first | (rw [if_pos (by decide +kernel)]; kernel_rfl) | (rw [if_neg (by decide +kernel)]; exact ⟨rfl, rfl⟩))
    (fun os started H enc _ => costBytes_lifted os started H enc)
#print axioms costBytes_holds
end Go.Proofs.Ytdnjmlenpelfgaa
