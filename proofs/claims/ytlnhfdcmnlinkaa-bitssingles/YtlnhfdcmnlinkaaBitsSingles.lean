/-
  The Go function lexiphanelaw2.BitsSingles returns true for every text b: bits one by one are the bits of the bytes.
  No condition: whatever the input, in whatever memory; the argument reads as before.
-/
import Derived.Test.YtlnhfdcmnlinkaaBitAlive
import Derived.ShutString
namespace Go.Proofs.Ytlnhfdcmnlinkaa
open Go.ChangeShapes Go.WideShapes Go.ChangeAt Go.RowKit
open Go.ChangeMaps (open_string shut_string)

theorem num_one (b : ByteArray) (k : Nat) : num b k 1 = bitN b k := by simp [num]

/-- The byte that the statement looks at. -/
theorem index_byte (b : ByteArray) (i : Nat) (h : i < 8 * b.size) (w : World) : (Instr.index 9 (.string b) (.int .i64 ((i : Int) / 8))).run Try.prog w = .ok (.int .u8 (byteN b (i / 8) : Int)) w := by
  rw [run_index_string w 9 b .i64 _ Try.underlying9, dif_pos ⟨by omega, by omega⟩, byteN_in b (i / 8) (by omega)]
  have e : ((i : Int) / 8).toNat = i / 8 := by omega
  simp only [e]

/-- The bit that the statement reckons. -/
theorem one_bit (X j : Nat) (hX : X < 256) : bits .and .i64 (wrap64 (X : Int) / 2 ^ j) 1 = ((X / 2 ^ j % 2 : Nat) : Int) := by
  rw [IntWalk.wrap64_in (X : Int) ⟨by omega, by omega⟩]
  have h := and_i64 1 (X / 2 ^ j) (Nat.lt_of_le_of_lt (Nat.div_le_self _ _) (by omega)) (by decide)
  rw [Nat.pow_one] at h
  rw [← h]
  simp

set_option maxHeartbeats 2000000 in
theorem singles_walk (b : ByteArray) (w : World) : Calls Try.prog 5 #[.string b] w fun e w' => e = .returned (.bool true) ∧ Below w.heap.size w w' := by
  by_cases h1 : b.size ≤ 100
  · go_enter Try.func5, Try.ntmps5
    go_wp2_with (first
      | (go_at_call 9; refine (alive_any _).mono ?_; rintro e w1 ⟨rfl, hb1⟩)
      | (go_at_call 10; refine (newReader_any _ _).mono ?_; rintro e w2 ⟨rfl, rfl⟩))
    have hs1 := hb1.size
    go_loopw [5] (fun i wr => ∃ (k : Nat) (v : Value), k ≤ 8 * b.size ∧ i = .int .i64 (k : Int) ∧ RdAt wr (w1.heap.size + 1) b k ∧ WrAt w.heap.size wr w1.heap.size v (num b 0 k) k ∧ (∀ g, v.ownBlock = some g → g ≠ w1.heap.size + 1) ∧ Below w.heap.size w wr)
      (fun i _ => 8 * b.size - (intOf i).toNat)
    case atStart =>
      refine ⟨0, .slice none 0 0, by omega, rfl, ?_, (WrAt.new w1 hs1).alloc _, by simp [Value.ownBlock], hb1.trans (((Below.refl _ _).alloc hs1 _).alloc (by simp; omega) _)⟩
      have := RdAt.new b (by omega) (w1.alloc (.cells #[.slice none 0 0, .int .i64 0, .int .i64 0] 27))
      simpa using this
    case round =>
      obtain ⟨k, v, hk, rfl, hR, hW, hne, hbl⟩ := hrel
      by_cases hlt : k < 8 * b.size
      · have hix := index_byte b k hlt
        have hbit : bits .and .i64 (wrap64 (byteN b (k / 8) : Int) / 2 ^ (7 - k % 8)) 1 = (bitN b k : Int) := one_bit _ _ (byteN_lt _ _)
        have hnum := num_one b k
        have hb2 := bitN_lt b k
        go_wp2_with (first
          | (go_at_call 12; refine (get_any hR 1 (by decide) (by omega)).mono ?_; rintro e w3 ⟨rfl, hR3, hk3⟩; have hW3 := hW.kept hk3 (by simp) (fun g hg => hne g hg))
          | (go_at_call 11; refine (put_any hW3 (bitN b k) 1 (by decide) (by omega) (by omega)).mono ?_; rintro e w4 ⟨rfl, v', hW4, hk4, ho4⟩; rw [show num b 0 k * 2 ^ 1 + bitN b k = num b 0 (k + 1) by simp [num]; omega] at hW4)
          | (go_at_call 15; refine (len_any hW4).mono ?_; rintro e w5 ⟨rfl, hs5⟩; change Same w4 w5 at hs5))
        have hnf : ¬ Foot w1.heap.size v (w1.heap.size + 1) := by
          rintro (h | h)
          · omega
          · exact hne _ h rfl
        have hlt3 := hR3.lt
        have hsz := hk4.size
        go_roundw
        case rel => exact ⟨k + 1, v', by omega, by go_num, (hR3.kept hk4 hnf).same hs5, hW4.same hs5, own_far ho4 hne hlt3, hbl.trans ((hk3.below (by have := hbl.size; omega) (fun j hj => by omega)).trans ((hk4.below (by omega) hW3.foot).trans (hs5.below _)))⟩
        case measure => simp [intOf]; omega
      · obtain rfl : k = 8 * b.size := by omega
        have hpk := packB_num b
        have hrs : decide (8 * b.size - 8 * b.size < 8 ∧ num b (8 * b.size) (8 * b.size - 8 * b.size) = 0) = true := by rw [Nat.sub_self]; rfl
        go_wp2_with (first
          | (go_at_call 12; refine (get_no hR 1 (by omega)).mono ?_; rintro e w3 ⟨rfl, hs3⟩; change Same wr w3 at hs3; have hW3 := hW.same hs3; have hR3 := hR.same hs3)
          | (go_at_call 16; refine (bytes_any hW3).mono ?_; rintro e w4 ⟨rfl, hb4⟩; have hR4 := hR3.below hb4 hR3.lt)
          | (go_at_call 19; refine (rest_any hR4).mono ?_; rintro e w5 ⟨rfl, hs5⟩; change Same w4 w5 at hs5; have hR5 := hR4.same hs5)
          | (go_at_call 18; refine (left_any hR5).mono ?_; rintro e w6 ⟨rfl, hs6⟩; change Same w5 w6 at hs6))
        go_ret
        exact ⟨rfl, hbl.trans ((hs3.below _).trans ((hb4.mono (by have := hs3.size; have := hbl.size; omega)).trans ((hs5.below _).trans (hs6.below _))))⟩
  · go_enter Try.func5, Try.ntmps5
    go_wp2_with (go_at_call 9; refine (alive_any _).mono ?_; rintro e w1 ⟨rfl, hb1⟩)
    all_goals go_ret
    all_goals exact ⟨rfl, hb1⟩

set_option linter.unusedVariables false
theorem bitsSingles_own : ownKnob Try.prog.godebug = none := by kernel_rfl

set_option maxRecDepth 100000 in
theorem bitsSingles_lifted (os : Os) (started : os.Started) (H : Type) (enc : TypeId × Value → H) :
    ReturnsInHanded {} Try.checked os 5 .any (Rows.bitsSinglesSpec.pre6 enc Try.prog Try.f5 Rows.bitsSinglesRow.domain false) (Rows.bitsSinglesSpec.post enc Try.prog Try.f5 false true false false) := by
  refine returnsInHanded_of_change (C := Try.checked) bitsSingles_own started (by kernel_rfl) Try.func5
    (ChangeSpec.witness6 (enc := enc) (C := Try.checked) false ⟨#[], #[.string ByteArray.empty], []⟩ 8 (by kernel_rfl) (by kernel_rfl) (by kernel_rfl) (by kernel_rfl)) ?_
  intro W base args ds gs before hval0 hW hcnd _
  have hval : ∀ (j : Nat) t v, Try.f5.params[j]? = some t → args[j]? = some v → Value.okWide Try.prog W .any base t v := hval0
  have hW' := hW
  obtain ⟨p, q, hA0, hV, rfl, hfz, hnd⟩ := hW
  have hA : DataW.TrodAll enc Try.prog W 0 (fun _ => true) true Try.f5.params.toList args.toList ds p := hA0
  rw [Try.params5] at hA hval
  obtain ⟨v0, vs0, d0, ds0, p0, q0, hargs, rfl, rfl, h0, r0⟩ := trodAll_cons hA
  obtain ⟨rfl, rfl, rfl⟩ := trodAll_nil r0
  obtain rfl : args = #[v0] := by cases args; simp_all
  obtain ⟨rfl, rfl⟩ := trodVars_none hV
  obtain ⟨a0, rfl, rfl, rfl, w0⟩ := open_string Try.underlying9 (hval 0 9 v0 rfl rfl) h0
  clear hA0 hval0
  refine (singles_walk a0 W).mono fun e W' ⟨he, bel⟩ => ?_
  subst he
  exact ⟨_, rfl, _, _, _, [], _, [], hW', trodAll_mk1 (shut_bool Try.underlying4 _), (trodAll_cons_mk (shut_string Try.underlying9 w0) trodAll_mk0), rfl, bel.frame _, fun h => by cases h⟩

/-- THE STATEMENT. -/
theorem bitsSingles_holds : Rows.BitsSinglesSaid :=
  OpenClaim.holds_of_wide 5 Try.f5 rfl rfl rfl rfl rfl rfl rfl ⟨rfl, rfl, rfl, rfl, rfl⟩ rfl rfl rfl rfl rfl (by kernel_rfl) Try.func5 (by kernel_rfl)
    (of_decide_eq_true (by kernel_rfl)) (by unfold Func.isWrapper; first | (rw [if_pos (by decide +kernel)]; kernel_rfl) | (rw [if_neg (by decide +kernel)]; exact ⟨rfl, rfl⟩))
    (fun os started H enc _ => bitsSingles_lifted os started H enc)
#print axioms bitsSingles_holds
end Go.Proofs.Ytlnhfdcmnlinkaa
