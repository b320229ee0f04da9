/-
  CostMost: what is more than all is more than whichever tokens, as many as there may be. For every token, every number of them.
  No condition: whatever the input, in whatever memory; the arguments read as before.
-/
import Derived.Test.YtdnjmlenpelfgaaAlive12
namespace Go.Proofs.Ytdnjmlenpelfgaa
open Go.ChangeShapes Go.WideShapes Go.ChangeAt Go.RowKit

theorem reads_filled {w : World} {g n : Nat} {f : Nat → Value} {x : Int} (h : w.rowIs g 3 n f) (hf : ∀ j, j < n → f j = .int .i64 x) (hg : g < w.heap.size) : Reads w (.slice (some ⟨g, 0, none⟩) n n) (nats (List.replicate n x)) := by
  refine ⟨_, n, by rw [nats_length, List.length_replicate], .inr ⟨g, 0, rfl, hg, fun i hi => ?_⟩⟩
  rw [nats_length, List.length_replicate] at hi
  rw [Nat.zero_add, h.cell hi, nats_at _ i (by rw [List.length_replicate]; exact hi), hf i hi, List.getElem_replicate]

set_option maxRecDepth 20000 in
set_option maxHeartbeats 2000000 in
theorem most_walk (x n0 : Int) (w : World) : Calls Try.prog 7 #[.int .i64 x, .int .i64 n0] w fun e w' => e = .returned (.bool true) ∧ Below w.heap.size w w' := by
  by_cases hin : 0 ≤ n0 ∧ n0 ≤ 1024
  · obtain ⟨n, rfl⟩ : ∃ n : Nat, n0 = (n : Int) := ⟨n0.toNat, by omega⟩
    have hn : n ≤ 1024 := by omega
    have h0 : ¬ (n : Int) < 0 := by omega
    have hmk := run_make_row' (P := Try.prog) 22 3 (.int .i64 0) 8 Try.underlying22 Try.infoInt rfl .i64 .i64 n (by omega) (by omega)
    have h1 := tks_le (List.replicate n x)
    have h2 := bts_le (List.replicate n x)
    rw [List.length_replicate] at h1 h2
    have HSum := hid (fun (W : World) (v : Value) (hv : Reads W v (nats (List.replicate n x))) => sum_any hv (by rw [List.length_replicate]; omega))
    obtain ⟨t, ht⟩ : ∃ t, t = tks (List.replicate n x) := ⟨_, rfl⟩
    obtain ⟨b, hb⟩ : ∃ b, b = bts (List.replicate n x) := ⟨_, rfl⟩
    rw [← ht, ← hb] at HSum
    rw [← ht] at h1
    rw [← hb] at h2
    clear ht hb
    have HM := hid (fun W => most_any W)
    obtain ⟨M, hM⟩ : ∃ M, M = 1099511627776 := ⟨_, rfl⟩
    rw [← hM] at HM
    have hM1 : 1000000 < M := by omega
    have hM2 : M < 9007199254740992 := by omega
    clear hM
    have L1 := hid (fun W => less_in t b M M (by omega) (by omega) (by omega) (by omega) W)
    have L2 := hid (fun W => less_in M M t b (by omega) (by omega) (by omega) (by omega) W)
    have L3 := hid (fun W => less_in M M M M (by omega) (by omega) (by omega) (by omega) W)
    rw [decide_eq_true (by omega)] at L1
    rw [decide_eq_false (by omega)] at L2
    rw [decide_eq_false (by omega)] at L3
    obtain ⟨wt, hwt⟩ : ∃ x, x = fN t := ⟨_, rfl⟩
    obtain ⟨wb, hwb⟩ : ∃ x, x = fN b := ⟨_, rfl⟩
    obtain ⟨wm, hwm⟩ : ∃ x, x = fN M := ⟨_, rfl⟩
    rw [← hwt, ← hwb] at HSum
    rw [← hwm] at HM L3
    rw [← hwm, ← hwt, ← hwb] at L1 L2
    clear hwt hwb hwm hM1 hM2
    go_enter Try.func7, Try.ntmps7
    go_wp2_with (go_at_call 8; refine (alive_any _).mono ?_; rintro e w1 ⟨rfl, hb1⟩)
    go_loopw [22] (fun vi wr => ∃ i : Nat, vi = .int .i64 i ∧ i ≤ n ∧ Hid (wr.rowIs w1.heap.size 3 n (fun j => if j < i then .int .i64 x else .int .i64 0)) ∧ Hid (Below w1.heap.size w1 wr) ∧ w1.heap.size < wr.heap.size) (fun vi _ => n - (intOf vi).toNat)
    case atStart => exact ⟨0, rfl, by omega, (World.rowIs_made w1 _ _ _).congr (fun j _ => by simp), (Below.refl _ _).alloc (Nat.le_refl _) _, by simp⟩
    case round =>
      obtain ⟨i, rfl, hi, hr, hbl, hlt⟩ := hrel
      by_cases hin2 : i < n
      · have hc := hr.out.cell hin2
        have hf := hr.out.frozen i
        go_wp2
        go_roundw
        case rel =>
          refine ⟨i + 1, by go_num, by omega, (hr.out.set i _).congr (fun j _ => ?_), hbl.out.setCell (Nat.le_refl _) _, by simpa [World.setCell, Array.size_modify] using hlt⟩
          by_cases hj : j = i
          · subst hj
            rw [if_pos rfl, if_pos (by omega)]
          · rw [if_neg hj]
            by_cases hji : j < i
            · rw [if_pos hji, if_pos (by omega)]
            · rw [if_neg hji, if_neg (by omega)]
        case measure => simp [intOf]; omega
      · obtain rfl : i = n := by omega
        have HR := hid (reads_filled hr.out (x := x) (fun j hj => if_pos hj) hlt)
        clear hr
        go_wp2_with (first
          | (go_at_call 11; refine (HSum.out _ _ HR.out).mono ?_; rintro e w2 ⟨rfl, rfl⟩)
          | (go_at_call 16; refine (HM.out _).mono ?_; rintro e w2 ⟨rfl, rfl⟩)
          | (go_at_call_of 15 (#[Value.complex FloatKind.f64 wt wb, Value.complex FloatKind.f64 wm wm] : Array Value); refine (L1.out _).mono ?_; rintro e w2 ⟨rfl, rfl⟩)
          | (go_at_call_of 15 (#[Value.complex FloatKind.f64 wm wm, Value.complex FloatKind.f64 wt wb] : Array Value); refine (L2.out _).mono ?_; rintro e w2 ⟨rfl, rfl⟩)
          | (go_at_call_of 15 (#[Value.complex FloatKind.f64 wm wm, Value.complex FloatKind.f64 wm wm] : Array Value); refine (L3.out _).mono ?_; rintro e w2 ⟨rfl, rfl⟩))
        go_ret
        exact ⟨rfl, below_more hb1 hbl.out⟩
  · rcases (show n0 < 0 ∨ (0 ≤ n0 ∧ 1024 < n0) by omega) with h | ⟨h, h3⟩
    all_goals
      go_enter Try.func7, Try.ntmps7
      go_wp2_with (go_at_call 8; refine (alive_any _).mono ?_; rintro e w1 ⟨rfl, hb1⟩)
      go_ret
      exact ⟨rfl, hb1⟩

set_option linter.unusedVariables false
theorem costMost_own : ownKnob Try.prog.godebug = none := by kernel_rfl

set_option maxRecDepth 100000 in
theorem costMost_lifted (os : Os) (started : os.Started) (H : Type) (enc : TypeId × Value → H) :
    ReturnsInHanded {} Try.checked os 7 .any (Rows.costMostSpec.pre6 enc Try.prog Try.f7 Rows.costMostRow.domain false) (Rows.costMostSpec.post enc Try.prog Try.f7 false true false false) := by
  refine returnsInHanded_of_change (C := Try.checked) costMost_own started (by kernel_rfl) Try.func7
    (ChangeSpec.witness6 (enc := enc) (C := Try.checked) false ⟨#[], #[.int .i64 0, .int .i64 0], []⟩ 8 (by kernel_rfl) (by kernel_rfl) (by kernel_rfl) (by kernel_rfl)) ?_
  intro W base args ds gs before hval0 hW hcnd _
  have hval : ∀ (j : Nat) t v, Try.f7.params[j]? = some t → args[j]? = some v → Value.okWide Try.prog W .any base t v := hval0
  have hW' := hW
  obtain ⟨p, q, hA0, hV, rfl, hfz, hnd⟩ := hW
  have hA : DataW.TrodAll enc Try.prog W 0 (fun _ => true) true Try.f7.params.toList args.toList ds p := hA0
  rw [Try.params7] at hA hval
  obtain ⟨v0, vs0, d0, ds0, p0, q0, hargs, rfl, rfl, h0, r0⟩ := trodAll_cons hA
  obtain ⟨v1, vs1, d1, ds1, p1, q1, rfl, rfl, rfl, h1, r1⟩ := trodAll_cons r0
  obtain ⟨rfl, rfl, rfl⟩ := trodAll_nil r1
  obtain rfl : args = #[v0, v1] := by cases args; simp_all
  obtain ⟨rfl, rfl⟩ := trodVars_none hV
  obtain ⟨a0, rfl, rfl, rfl, w0⟩ := open_int Try.underlying3 (hval 0 3 v0 rfl rfl) h0
  obtain ⟨a1, rfl, rfl, rfl, w1⟩ := open_int Try.underlying3 (hval 1 3 v1 rfl rfl) h1
  clear hA0 hval0
  refine (most_walk a0 a1 W).mono fun e W' ⟨he, bel⟩ => ?_
  subst he
  exact ⟨_, rfl, _, _, _, [], _, [], hW', trodAll_mk1 (shut_bool Try.underlying4 _), (trodAll_cons_mk (shut_int Try.underlying3 w0) (trodAll_cons_mk (shut_int Try.underlying3 w1) trodAll_mk0)), rfl, bel.frame _, fun h => by cases h⟩

/-- THE STATEMENT. -/
theorem costMost_holds : Rows.CostMostSaid :=
  OpenClaim.holds_of_wide 7 Try.f7 rfl rfl rfl rfl rfl rfl rfl ⟨rfl, rfl, rfl, rfl, rfl⟩ rfl rfl rfl rfl rfl (by kernel_rfl) Try.func7 (by kernel_rfl)
    (of_decide_eq_true (by kernel_rfl)) (by unfold Func.isWrapper; first | (rw [if_pos (by decide +kernel)]; kernel_rfl) | (rw [if_neg (by decide +kernel)]; exact ⟨rfl, rfl⟩))
    (fun os started H enc _ => costMost_lifted os started H enc)
#print axioms costMost_holds
end Go.Proofs.Ytdnjmlenpelfgaa
