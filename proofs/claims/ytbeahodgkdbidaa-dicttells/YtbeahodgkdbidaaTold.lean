/-
  What the helper told of chapter 6's statements answers.
-/
import Derived.Test.YtbeahodgkdbidaaHelps
import Derived.Test.YtbeahodgkdbidaaDict4
namespace Go.Proofs.Ytbeahodgkdbidaa
open Go.ChangeShapes Go.WideShapes Go.ChangeAt Go.RowKit

theorem round_in (k : Int) (n : Nat) (h1 : 1 ≤ n) (h5 : n ≤ 100000) : ∃ j : Nat, j < n ∧ (wrap64 (k.tmod (n : Int) + (n : Int))).tmod (n : Int) = (j : Int) := by
  have a := Int.tmod_lt_of_pos k (show (0 : Int) < (n : Int) by omega)
  have b := Int.lt_tmod_of_pos k (show (0 : Int) < (n : Int) by omega)
  rw [IntWalk.wrap64_in _ ⟨by omega, by omega⟩, Int.tmod_eq_emod_of_nonneg (by omega)]
  have c := Int.emod_nonneg (k.tmod (n : Int) + (n : Int)) (show (n : Int) ≠ 0 by omega)
  have d := Int.emod_lt_of_pos (k.tmod (n : Int) + (n : Int)) (show (0 : Int) < (n : Int) by omega)
  exact ⟨((k.tmod (n : Int) + (n : Int)) % (n : Int)).toNat, by omega, by omega⟩

set_option maxRecDepth 20000 in
set_option maxHeartbeats 2000000 in
theorem told_same (c a : Nat) (hc : 0 < c) (w : World) :
    Calls Try.prog 14 #[.iface 64 (.agg #[.int .i64 c, .int .i64 a]), .int .i64 c, .int .i64 a] w fun e w' => e = .returned (.bool true) ∧ Below w.heap.size w w' := by
  have hc1 : ((c : Int) == 0) = false := beq_false_of_ne (by omega)
  go_enter Try.func14, Try.ntmps14
  go_wp2_with (go_at_call 31; refine (fault_of c a _).mono ?_; rintro e w3 ⟨rfl, hb3⟩; have q0 := (pair_at w3 c a).1; have q1 := (pair_at w3 c a).2)
  go_ret
  exact ⟨rfl, hb3.alloc hb3.size _⟩

theorem told_nil (a : Int) (w : World) :
    Calls Try.prog 14 #[.nilIface, .int .i64 0, .int .i64 a] w fun e w' => e = .returned (.bool true) ∧ w' = w := by
  go_enter Try.func14, Try.ntmps14
  go_wp2
  go_ret
  exact ⟨rfl, rfl⟩
end Go.Proofs.Ytbeahodgkdbidaa
