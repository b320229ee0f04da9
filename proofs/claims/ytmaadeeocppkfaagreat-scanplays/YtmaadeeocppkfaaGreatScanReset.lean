/-
  Contract of package scan: Reset.
-/
import Derived.Test.YtmaadeeocppkfaaGreatScan1
namespace Go.Proofs.YtmaadeeocppkfaaGreat
open Go.ChangeShapes Go.WideShapes Go.ChangeAt Go.RowKit

theorem resetS_in {w0 w : World} {p l t n : Nat} {A P : List (List Nat)} {wd : List Nat → Int} {z : List Nat} (h : ScAt w0 w p l t A P wd z n) (hN : Nodes A) :
    Calls Tryz.prog 10 #[.pointer (some ⟨p, 0, none⟩)] w fun e w' => e = .returned (.tuple #[]) ∧ ScAt w0 w' p l t A P wd [] 0 ∧ Kept (· = p) w w' := by
  obtain ⟨c0, c1, c2, f1, f2⟩ := scan_cells h.cells
  have HC := hid (scan_put h.cells (.int .i64 0) (.int .i64 0))
  go_enter Tryz.func10, Tryz.ntmps10
  go_wp2
  have hk := ((Kept.refl (· = p) w).setCell p 1 (.int .i64 0) rfl).setCell p 2 (.int .i64 0) rfl
  refine bodyPost_end (v := .tuple #[]) (by simp [results, Tryz.results10, go_sem]) rfl ⟨rfl, { h with below := below_then h.below hk h.lo, cells := ?_ }, hk⟩
  rw [show longT A [] = [] from rfl, idx_nil hN]
  exact HC.out

theorem resetS_none (w : World) : Calls Tryz.prog 10 #[.pointer none] w fun e w' => e = .returned (.tuple #[]) ∧ w' = w := by
  go_enter Tryz.func10, Tryz.ntmps10
  go_wp2
  exact bodyPost_ret (v := .tuple #[]) (by simp [results, Tryz.results10, go_sem]) rfl ⟨rfl, rfl⟩
end Go.Proofs.YtmaadeeocppkfaaGreat
