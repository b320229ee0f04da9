/-
  Contracts of a strings.Builder that the call itself has made, at this program: copyCheck, WriteString; and of strings.Clone.
-/
import Derived.Test.YtchbjokcnpcgcaaShelf
import Derived.Test.YtchbjokcnpcgcaaSlices
import Derived.Test.YtchbjokcnpcgcaaTexts

import Derived.Lib.AppendStr


import Derived.WalkKit
import Derived.Handy
namespace Go.Proofs.Ytchbjokcnpcgcaa
open Go.ChangeShapes Go.WideShapes Go.ChangeAt Go.RowKit

theorem Try.infoU8 : (Try.prog.info? 5).map (fun i => (i.zero, i.size, i.bytes)) = some (some (.int .u8 0), 1, 1) := by kernel_rfl

theorem strCells_nums (s : ByteArray) : Lib.strCells s = (nums s).map fun x : Nat => Value.int .u8 (x : Int) := by
  simp [Lib.strCells, nums, Function.comp_def]

theorem clone_any (s : ByteArray) (hs : s.size ≤ 281474976710656) (w : World) :
    Calls Try.prog 33 #[.string s] w fun e w' => e = .returned (.string s) ∧ Below w.heap.size w w' := by
  go_enter Try.func33, Try.ntmps33
  go_wp2_with (go_at_call 36; refine (Try.stringslite_Clone s _ hs).mono ?_; rintro e w1 ⟨rfl, hb1⟩)
  go_ret
  exact ⟨rfl, hb1⟩
end Go.Proofs.Ytchbjokcnpcgcaa
