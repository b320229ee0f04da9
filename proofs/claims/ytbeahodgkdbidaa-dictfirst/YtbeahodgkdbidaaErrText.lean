/-
  The text of a dictionary's fault at a place below 100.
-/
import Derived.Test.YtbeahodgkdbidaaItoa
import Derived.Test.YtbeahodgkdbidaaTold
namespace Go.Proofs.Ytbeahodgkdbidaa
open Go.ChangeShapes Go.WideShapes Go.ChangeAt Go.RowKit

theorem name5 (w : World) : Calls Try.prog 99 #[.int .i64 5] w fun e w' => e = .returned (.string ⟨#[100, 105, 99, 116]⟩) ∧ w' = w := by
  go_enter Try.func99, Try.ntmps99
  go_wp2
  go_ret
  exact ⟨rfl, rfl⟩
theorem name10 (w : World) : Calls Try.prog 99 #[.int .i64 10] w fun e w' => e = .returned (.string ⟨#[115, 105, 122, 101]⟩) ∧ w' = w := by
  go_enter Try.func99, Try.ntmps99
  go_wp2
  go_ret
  exact ⟨rfl, rfl⟩

def errT (nm : ByteArray) (a : Nat) : ByteArray := nm ++ ⟨#[32, 97, 116, 32]⟩ ++ ⟨(Lib.decDigits a).toArray⟩

theorem digits_small (a : Nat) (ha : a < 100) : (⟨(Lib.decDigits a).toArray⟩ : ByteArray).size ≤ 100 := by
  have hf : ∀ i : Fin 100, (Lib.decDigits i.val).length ≤ 100 := by decide +kernel
  have := hf ⟨a, ha⟩
  simpa [ByteArray.size] using this

set_option maxRecDepth 20000 in
theorem error_small (c a : Nat) (nm : ByteArray) (hn : nm.size = 4) (hc : ∀ w : World, Calls Try.prog 99 #[.int .i64 c] w fun e w' => e = .returned (.string nm) ∧ w' = w) (ha : a < 100) (w : World) :
    Calls Try.prog 98 #[.agg #[.int .i64 c, .int .i64 a]] w fun e w' => e = .returned (.string (errT nm a)) ∧ Below w.heap.size w w' := by
  have hd := digits_small a ha
  have h1 : ∀ W : World, (Op.stringOp .add nm ⟨#[32, 97, 116, 32]⟩).run Try.prog W = .ok (.string (nm ++ ⟨#[32, 97, 116, 32]⟩)) W := fun W => run_string_add_sum W _ _ (by rw [hn]; decide)
  have h2 : ∀ W : World, (Op.stringOp .add (nm ++ ⟨#[32, 97, 116, 32]⟩) ⟨(Lib.decDigits a).toArray⟩).run Try.prog W = .ok (.string (errT nm a)) W := fun W => run_string_add_sum W _ _ (by rw [ByteArray.size_append, hn]; have e : (⟨#[32, 97, 116, 32]⟩ : ByteArray).size = 4 := rfl; rw [e]; omega)
  have hit := Try.strconv_Itoa_small a ha
  generalize errT nm a = z at *
  generalize hq : nm ++ ⟨#[32, 97, 116, 32]⟩ = y at *
  generalize (⟨(Lib.decDigits a).toArray⟩ : ByteArray) = x at *
  clear hq hd
  go_enter Try.func98, Try.ntmps98
  go_wp2
  go_quiet ((first | (go_at_call 99; exact Calls.quiet_of_same (hc _)) | (go_at_call 100; exact Calls.quiet_of_same (hit _))))
  go_wp2
  go_ret
  exact ⟨rfl, below_drewN ((Below.refl _ _).alloc (Nat.le_refl _) _) _⟩
end Go.Proofs.Ytbeahodgkdbidaa
