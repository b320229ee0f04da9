/-
  Contracts of package dict: All, Bytes, Id.
-/
import Derived.Test.YtchbjokcnpcgcaaDict2
namespace Go.Proofs.Ytchbjokcnpcgcaa
open Go.ChangeShapes Go.WideShapes Go.ChangeAt Go.RowKit

@[go_sem] theorem nil_some (ad : Addr) (n c : Nat) (w : World) : (binOp .eql 22 (.slice (some ad) n c) (.slice none 0 0)).run Try.prog w = .ok (.bool false) w := by kernel_rfl
@[go_sem] theorem nil_none (w : World) : (binOp .eql 22 (.slice none 0 0) (.slice none 0 0)).run Try.prog w = .ok (.bool true) w := by kernel_rfl

theorem own_none (w : World) (B : Nat) (e : TypeId) (hB : B ≤ w.heap.size) : (w.alloc (.cells #[] e)).ownsRow B e 1 (.slice (some ⟨w.heap.size, 0, none⟩) 0 0) 0 [] :=
  ⟨rfl, .inr ⟨w.heap.size, 0, #[], rfl, hB, heap_alloc_new w _, Nat.le_refl _, by decide, rfl, rfl⟩⟩

theorem body_take_le (L : List ByteArray) : ∀ i, (body (L.take i)).length ≤ (body L).length := by
  induction L with
  | nil => intro i; simp [body]
  | cons s L ih =>
    intro i
    cases i with
    | zero => simp [body]
    | succ i => have := ih i; rw [List.take_succ_cons, body_cons, body_cons, List.length_append, List.length_append (bs := body L)]; omega

end Go.Proofs.Ytchbjokcnpcgcaa
