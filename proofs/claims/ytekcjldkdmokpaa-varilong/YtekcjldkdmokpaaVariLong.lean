/-
  The Go function lexiphanelaw3.VariLong returns true for every integer of 64 bits and every byte: a number that goes on and on is too great at its fifth byte.
  No condition: whatever the input, in whatever memory; the arguments read as before.
-/
import Derived.Test.YtekcjldkdmokpaaVari
namespace Go.Proofs.Ytekcjldkdmokpaa
open Go.ChangeShapes Go.WideShapes Go.ChangeAt Go.RowKit

/-- The byte 129, k times. -/
def rep (k : Nat) : ByteArray := bytesOf (List.replicate k 129)

theorem rep_size (k : Nat) : (rep k).size = k := by rw [rep, bytesOf_size, List.length_replicate]

theorem rep_more (k : Nat) : rep k ++ ⟨#[129]⟩ = rep (k + 1) := by
  have : (⟨#[129]⟩ : ByteArray) = bytesOf [129] := rfl
  rw [this, rep, rep, bytesOf_append, List.replicate_succ']

theorem nums_rep (k : Nat) : nums (rep k) = List.replicate k 129 := nums_bytesOf _ (by intro x hx; have := List.eq_of_mem_replicate hx; omega)

theorem strOne (c : Nat) : strOfNums [(c : Int)] = bytesOf [c] := bytesOf_strs [c]

theorem nums_more (k c : Nat) (hc : c < 256) : nums (rep k ++ strOfNums [(c : Int)]) = List.replicate k 129 ++ [c] := by
  rw [nums_append, nums_rep, strOne, nums_bytesOf _ (by simpa using hc)]

theorem vgo_five (k : Nat) (l : List Nat) : vgo (List.replicate (k + 5) 129 ++ l) 0 0 = (0, 0, 4) := by
  simp [List.replicate_succ, vgo]

theorem long_great (n : Nat) (h : 5 ≤ n) : vget (rep n) = (0, 0, 4) := by
  obtain ⟨k, rfl⟩ : ∃ k, n = k + 5 := ⟨n - 5, by omega⟩
  rw [vget, nums_rep]
  have := vgo_five k []
  rwa [List.append_nil] at this

theorem long_great2 (n c : Nat) (hc : c < 256) (h : 5 ≤ n) : vget (rep n ++ strOfNums [(c : Int)]) = (0, 0, 4) := by
  obtain ⟨k, rfl⟩ : ∃ k, n = k + 5 := ⟨n - 5, by omega⟩
  rw [vget, nums_more _ _ hc]
  exact vgo_five k _

theorem long_more (n : Nat) (h : n < 5) : vget (rep n) = (0, 0, 2) := by
  rw [vget, nums_rep]
  rcases (show n = 0 ∨ n = 1 ∨ n = 2 ∨ n = 3 ∨ n = 4 by omega) with rfl | rfl | rfl | rfl | rfl <;> simp [List.replicate_succ, vgo]

theorem long_range (c : Nat) (hc : c < 256) (h : 15 < c) : vget (rep 4 ++ strOfNums [(c : Int)]) = (0, 0, 4) := by
  rw [vget, nums_more _ _ hc]
  simp [List.replicate_succ, vgo, h]

theorem long_lack (n c : Nat) (hc : c < 256) (h : n < 4) (h128 : 128 ≤ c) : vget (rep n ++ strOfNums [(c : Int)]) = (0, 0, 2) := by
  rw [vget, nums_more _ _ hc]
  rcases (show n = 0 ∨ n = 1 ∨ n = 2 ∨ n = 3 by omega) with rfl | rfl | rfl | rfl <;> simp [List.replicate_succ, vgo, h128]

theorem long_form (n : Nat) (h : n < 5) (h0 : 0 < n) : vget (rep n ++ strOfNums [((0 : Nat) : Int)]) = (0, 0, 3) := by
  rw [vget, nums_more _ _ (by decide)]
  rcases (show n = 1 ∨ n = 2 ∨ n = 3 ∨ n = 4 by omega) with rfl | rfl | rfl | rfl <;> simp [List.replicate_succ, vgo]

theorem long_ok (n c : Nat) (h : n < 5) (h128 : c < 128) (h15 : n = 4 → c ≤ 15) (h0 : 0 < n → c ≠ 0) : ∃ x, vget (rep n ++ strOfNums [(c : Int)]) = (x, n + 1, 0) := by
  rw [vget, nums_more _ _ (by omega)]
  have h1 : ¬ 128 ≤ c := by omega
  rcases (show n = 0 ∨ n = 1 ∨ n = 2 ∨ n = 3 ∨ n = 4 by omega) with rfl | rfl | rfl | rfl | rfl
  · simp [vgo, h1]
  · have := h0 (by decide); simp [List.replicate_succ, vgo, h1, this]
  · have := h0 (by decide); simp [List.replicate_succ, vgo, h1, this]
  · have := h0 (by decide); simp [List.replicate_succ, vgo, h1, this]
  · have := h0 (by decide); have h2 : ¬ 15 < c := by have := h15 rfl; omega
    simp [List.replicate_succ, vgo, h1, this, h2]

theorem byte_of {n : Int} (h : (Lit.int .u8 n).wf = true) : 0 ≤ n ∧ n < 256 := by
  simp only [Lit.wf, Bool.and_eq_true, IntKind.min, IntKind.max, IntKind.signed, IntKind.bits] at h
  simp at h
  omega

theorem conv_one (w : World) (y : Int) : (convert 32 9 (.slice (some ⟨w.heap.size, 0, none⟩) 1 1)).run Try.prog (w.alloc (.cells #[.int .u8 y] 5)) = .ok (.string (strOfNums [y])) (w.alloc (.cells #[.int .u8 y] 5)) :=
  run_convert_bytes_arg (P := Try.prog) (w.alloc (.cells #[.int .u8 y] 5)) 32 5 Try.underlying32 Try.underlying5 w.heap.size 0 1 1 [y] rfl (fun i hi => by
    obtain rfl : i = 0 := by omega
    have hh : (w.alloc (.cells #[.int .u8 y] 5)).heap[w.heap.size]? = some (.cells #[.int .u8 y] 5 (0, 0)) := heap_alloc_new w _
    rw [Nat.zero_add, cell_of_row _ _ _ _ _ _ hh]
    rfl) 9 Try.underlying9

set_option maxRecDepth 20000 in
set_option maxHeartbeats 2000000 in
theorem long_walk (n l : Int) (hl : 0 ≤ l ∧ l < 256) (w : World) : Calls Try.prog 6 #[.int .i64 n, .int .u8 l] w fun e w' => e = .returned (.bool true) ∧ Below w.heap.size w w' := by
  by_cases hn : 0 ≤ n ∧ n ≤ 20
  · obtain ⟨hn0, hn20⟩ := hn
    obtain ⟨n, rfl⟩ := Int.eq_ofNat_of_zero_le hn0
    obtain ⟨c, rfl⟩ := Int.eq_ofNat_of_zero_le hl.1
    have hc : c < 256 := by omega
    go_enter Try.func6, Try.ntmps6
    go_wp2_with (go_at_call 8; refine (alive_any _).mono ?_; rintro e w1 ⟨rfl, hb1⟩)
    go_loopw [5, 6] (fun vb vk wr => ∃ k : Nat, vb = .string (rep k) ∧ vk = .int .i64 k ∧ k ≤ n ∧ wr = w1) (fun _ vk _ => n - (intOf vk).toNat)
    case atStart => exact ⟨0, rfl, rfl, by omega, rfl⟩
    case round =>
      obtain ⟨k, rfl, rfl, hk, rfl⟩ := hrel
      have hadd : ∀ w : World, (Op.stringOp .add (rep k) ⟨#[129]⟩).run Try.prog w = .ok (.string (rep (k + 1))) w := fun w => by
        rw [run_string_add_sum (P := Try.prog) (w := w) _ _ (by rw [rep_size]; simp [ByteArray.size]; omega), rep_more]
      by_cases hlt : k < n
      · go_wp2
        go_roundw
        case rel => exact ⟨k + 1, rfl, by go_num, by omega, trivial⟩
        case measure => simp [intOf]; omega
      · obtain rfl : k = n := by omega
        have cv := conv_one wr (c : Int)
        have hadd2 : ∀ w : World, (Op.stringOp .add (rep k) (strOfNums [(c : Int)])).run Try.prog w = .ok (.string (rep k ++ strOfNums [(c : Int)])) w := fun w =>
          run_string_add_sum (P := Try.prog) (w := w) _ _ (by rw [rep_size, strOne, bytesOf_size]; simp; omega)
        have hsz : (rep k ++ strOfNums [(c : Int)]).size ≤ 140737488351232 := by rw [ByteArray.size_append, rep_size, strOne, bytesOf_size]; simp; omega
        have hsz1 : (rep k).size ≤ 140737488351232 := by rw [rep_size]; omega
        by_cases h5 : 5 ≤ k
        · have e1 := long_great k h5
          have e2 := long_great2 k c hc h5
          go_wp2_with (first
            | (go_at_call 11; have _h := later; refine (get_any (rep k ++ strOfNums [(c : Int)]) hsz _).mono ?_; rintro e w2 ⟨rfl, rfl⟩)
            | (go_at_call 11; refine (get_any (rep k) hsz1 _).mono ?_; rintro e w2 ⟨rfl, rfl⟩; have later : True := trivial))
          go_ret
          exact ⟨rfl, hb1.alloc hb1.size _⟩
        · have e1 := long_more k (by omega)
          by_cases h4 : 4 ≤ k ∧ 15 < c
          · obtain ⟨h4, h15⟩ := h4
            have e2 : vget (rep k ++ strOfNums [(c : Int)]) = (0, 0, 4) := by rw [show k = 4 by omega]; exact long_range c hc h15
            have b4 : ((k : Int) == 4) = true := beq_iff_eq.2 (by omega)
            go_wp2_with (first
              | (go_at_call 11; have _h := later; refine (get_any (rep k ++ strOfNums [(c : Int)]) hsz _).mono ?_; rintro e w2 ⟨rfl, rfl⟩)
              | (go_at_call 11; refine (get_any (rep k) hsz1 _).mono ?_; rintro e w2 ⟨rfl, rfl⟩; have later : True := trivial))
            go_ret
            exact ⟨rfl, hb1.alloc hb1.size _⟩
          · by_cases h128 : 128 ≤ c
            · have e2 := long_lack k c hc (by omega) h128
              have b4 : ((k : Int) == 4) = false := beq_false_of_ne (by omega)
              go_wp2_with (first
                | (go_at_call 11; have _h := later; refine (get_any (rep k ++ strOfNums [(c : Int)]) hsz _).mono ?_; rintro e w2 ⟨rfl, rfl⟩)
                | (go_at_call 11; refine (get_any (rep k) hsz1 _).mono ?_; rintro e w2 ⟨rfl, rfl⟩; have later : True := trivial))
              go_ret
              exact ⟨rfl, hb1.alloc hb1.size _⟩
            · by_cases h0 : c ≤ 0 ∧ 0 < k
              · obtain ⟨h0, hk0⟩ := h0
                have e2 : vget (rep k ++ strOfNums [(c : Int)]) = (0, 0, 3) := by rw [show c = 0 by omega]; exact long_form k (by omega) hk0
                have bc : ((c : Int) == 0) = true := beq_iff_eq.2 (by omega)
                have b15 : decide ((15 : Int) < (c : Int)) = false := decide_eq_false (by omega)
                by_cases hk4 : 4 ≤ k
                · have b4 : ((k : Int) == 4) = true := beq_iff_eq.2 (by omega)
                  go_wp2_with (first
                    | (go_at_call 11; have _h := later; refine (get_any (rep k ++ strOfNums [(c : Int)]) hsz _).mono ?_; rintro e w2 ⟨rfl, rfl⟩)
                    | (go_at_call 11; refine (get_any (rep k) hsz1 _).mono ?_; rintro e w2 ⟨rfl, rfl⟩; have later : True := trivial))
                  go_ret
                  exact ⟨rfl, hb1.alloc hb1.size _⟩
                · have b4 : ((k : Int) == 4) = false := beq_false_of_ne (by omega)
                  go_wp2_with (first
                    | (go_at_call 11; have _h := later; refine (get_any (rep k ++ strOfNums [(c : Int)]) hsz _).mono ?_; rintro e w2 ⟨rfl, rfl⟩)
                    | (go_at_call 11; refine (get_any (rep k) hsz1 _).mono ?_; rintro e w2 ⟨rfl, rfl⟩; have later : True := trivial))
                  go_ret
                  exact ⟨rfl, hb1.alloc hb1.size _⟩
              · obtain ⟨x, e2⟩ := long_ok k c (by omega) (by omega) (by omega) (by omega)
                by_cases hk4 : 4 ≤ k
                · have b4 : ((k : Int) == 4) = true := beq_iff_eq.2 (by omega)
                  have b15 : decide ((15 : Int) < (c : Int)) = false := decide_eq_false (by omega)
                  have bc : ((c : Int) == 0) = false := beq_false_of_ne (by omega)
                  go_wp2_with (first
                    | (go_at_call 11; have _h := later; refine (get_any (rep k ++ strOfNums [(c : Int)]) hsz _).mono ?_; rintro e w2 ⟨rfl, rfl⟩)
                    | (go_at_call 11; refine (get_any (rep k) hsz1 _).mono ?_; rintro e w2 ⟨rfl, rfl⟩; have later : True := trivial))
                  go_ret
                  exact ⟨rfl, hb1.alloc hb1.size _⟩
                · have b4 : ((k : Int) == 4) = false := beq_false_of_ne (by omega)
                  by_cases hc0 : c ≤ 0
                  · have bc : ((c : Int) == 0) = true := beq_iff_eq.2 (by omega)
                    have bk : decide ((0 : Int) < (k : Int)) = false := decide_eq_false (by omega)
                    go_wp2_with (first
                      | (go_at_call 11; have _h := later; refine (get_any (rep k ++ strOfNums [(c : Int)]) hsz _).mono ?_; rintro e w2 ⟨rfl, rfl⟩)
                      | (go_at_call 11; refine (get_any (rep k) hsz1 _).mono ?_; rintro e w2 ⟨rfl, rfl⟩; have later : True := trivial))
                    go_ret
                    exact ⟨rfl, hb1.alloc hb1.size _⟩
                  · have bc : ((c : Int) == 0) = false := beq_false_of_ne (by omega)
                    go_wp2_with (first
                      | (go_at_call 11; have _h := later; refine (get_any (rep k ++ strOfNums [(c : Int)]) hsz _).mono ?_; rintro e w2 ⟨rfl, rfl⟩)
                      | (go_at_call 11; refine (get_any (rep k) hsz1 _).mono ?_; rintro e w2 ⟨rfl, rfl⟩; have later : True := trivial))
                    go_ret
                    exact ⟨rfl, hb1.alloc hb1.size _⟩
  · go_enter Try.func6, Try.ntmps6
    go_wp2_with (go_at_call 8; refine (alive_any _).mono ?_; rintro e w1 ⟨rfl, hb1⟩)
    all_goals go_ret
    all_goals exact ⟨rfl, hb1⟩

set_option linter.unusedVariables false
theorem variLong_own : ownKnob Try.prog.godebug = none := by kernel_rfl

set_option maxRecDepth 100000 in
theorem variLong_lifted (os : Os) (started : os.Started) (H : Type) (enc : TypeId × Value → H) :
    ReturnsInHanded {} Try.checked os 6 .any (Rows.variLongSpec.pre6 enc Try.prog Try.f6 Rows.variLongRow.domain false) (Rows.variLongSpec.post enc Try.prog Try.f6 false true false false) := by
  refine returnsInHanded_of_change (C := Try.checked) variLong_own started (by kernel_rfl) Try.func6
    (ChangeSpec.witness6 (enc := enc) (C := Try.checked) false ⟨#[], #[.int .i64 0, .int .u8 0], []⟩ 8 (by kernel_rfl) (by kernel_rfl) (by kernel_rfl) (by kernel_rfl)) ?_
  intro W base args ds gs before hval0 hW hcnd _
  have hval : ∀ (j : Nat) t v, Try.f6.params[j]? = some t → args[j]? = some v → Value.okWide Try.prog W .any base t v := hval0
  have hW' := hW
  obtain ⟨p, q, hA0, hV, rfl, hfz, hnd⟩ := hW
  have hA : DataW.TrodAll enc Try.prog W 0 (fun _ => true) true Try.f6.params.toList args.toList ds p := hA0
  rw [Try.params6] at hA hval
  obtain ⟨v0, vs0, d0, ds0, p0, q0, hargs, rfl, rfl, h0, r0⟩ := trodAll_cons hA
  obtain ⟨v1, vs1, d1, ds1, p1, q1, rfl, rfl, rfl, h1, r1⟩ := trodAll_cons r0
  obtain ⟨rfl, rfl, rfl⟩ := trodAll_nil r1
  obtain rfl : args = #[v0, v1] := by cases args; simp_all
  obtain ⟨rfl, rfl⟩ := trodVars_none hV
  obtain ⟨a0, rfl, rfl, rfl, w0⟩ := open_int Try.underlying3 (hval 0 3 v0 rfl rfl) h0
  obtain ⟨a1, rfl, rfl, rfl, w1⟩ := open_int Try.underlying5 (hval 1 5 v1 rfl rfl) h1
  clear hA0 hval0
  refine (long_walk a0 a1 (byte_of w1) W).mono fun e W' ⟨he, bel⟩ => ?_
  subst he
  exact ⟨_, rfl, _, _, _, [], _, [], hW', trodAll_mk1 (shut_bool Try.underlying4 _), (trodAll_cons_mk (shut_int Try.underlying3 w0) (trodAll_cons_mk (shut_int Try.underlying5 w1) trodAll_mk0)), rfl, bel.frame _, fun h => by cases h⟩

/-- THE STATEMENT. -/
theorem variLong_holds : Rows.VariLongSaid :=
  OpenClaim.holds_of_wide 6 Try.f6 rfl rfl rfl rfl rfl rfl rfl ⟨rfl, rfl, rfl, rfl, rfl⟩ rfl rfl rfl rfl rfl (by kernel_rfl) Try.func6 (by kernel_rfl)
    (of_decide_eq_true (by kernel_rfl)) (by unfold Func.isWrapper; first | (rw [if_pos (by decide +kernel)]; kernel_rfl) | (rw [if_neg (by decide +kernel)]; exact ⟨rfl, rfl⟩))
    (fun os started H enc _ => variLong_lifted os started H enc)
#print axioms variLong_holds
end Go.Proofs.Ytekcjldkdmokpaa
