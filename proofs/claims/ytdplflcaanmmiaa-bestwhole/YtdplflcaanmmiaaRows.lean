/-
  No cell of these rows narrows 'for every input' (looked for: loops, veiled, ifaces, maps, wideKeys, modest, calm, conditions, laid).
  DERIVED. THE GIVEN ROWS OF THIS SEAT. 4 by the template 'for every input the law returns true; each argument reads behind the call as it read before'; 0 by the template 'total and deterministic' (their statements: YtdplflcaanmmiaaTotals.lean).
  GIVEN WITH THE SEED: the statements are not yours to turn. If you find one false, say at which input.
  Laid BY PROGRAM, IN A SANDBOX (cutbox-rows.mjs): the forced cells as the released guide's own fill.sh prints them over the translation 6cc554c40d9547e1… (all of the seat's roots in one cut). By AI agents, Wed Nov 11 2026. No macro, syntax, notation, axiom, sorry.
-/
import Derived.Test.YtdplflcaanmmiaaChecked
import GoSem.Claim
import GoSem.ClaimJoined
import GoSem.ClaimMapViews
import Derived.JoinedTies
import Derived.KernelRfl
namespace Go.Proofs.Ytdplflcaanmmiaa
/- THE CELL 'sum', in the pinned program and in every row, IS THE sha256 OF THE DUMP (.gsa) THAT YtdplflcaanmmiaaProg.lean LOADS. Nothing in Lean hashes anything: it is a label: what it is worth is what the hold of that sum in a sandbox is worth. -/
noncomputable def Try.pinned : Pinned := { name := "ytdplflcaanmmiaa", sum := "6cc554c40d9547e13f7b315856a3fde8a50012ae97b37ebaa16670a98d1757ad", checked := Try.checked }
namespace Rows
def none {H : Type} : Left H := { results := [], args := [] }

/-- 'lexiphanelaw15.BestCosts': WHATEVER THE INPUT: true; the input reads as it did. -/
def bestCostsSpec : ChangeSpec := { name := "bestCosts", fn := fun _ => fun
  | [d1, d2] => { results := [.lit (.bool true)], args := [d1, d2] }
  | _ => none }
def bestCostsRow : OpenClaim := { program := "ytdplflcaanmmiaa", sum := "6cc554c40d9547e13f7b315856a3fde8a50012ae97b37ebaa16670a98d1757ad", func := "lexiphane/lexiphanelaw15.BestCosts", spec := "bestCosts", inPlace := ["slices.overlaps[byte]", "slices.overlaps[int]"], unfollowed := true, recurses := true, apart := false }
def BestCostsSaid : Prop := bestCostsRow.holds Try.pinned (OpenSpec.ofChange bestCostsSpec)

/-- ITS FALSE NEIGHBOUR: 'it returns false'. Refute it at one input. -/
def bestCostsWrong : ChangeSpec := { name := "bestCosts", fn := fun _ => fun
  | [d1, d2] => { results := [.lit (.bool false)], args := [d1, d2] }
  | _ => none }
def BestCostsWrongFalsely : Prop := bestCostsRow.holds Try.pinned (OpenSpec.ofChange bestCostsWrong)

/-- 'lexiphanelaw15.BestWindows': WHATEVER THE INPUT: true; the input reads as it did. -/
def bestWindowsSpec : ChangeSpec := { name := "bestWindows", fn := fun _ => fun
  | [d1, d2, d3, d4] => { results := [.lit (.bool true)], args := [d1, d2, d3, d4] }
  | _ => none }
def bestWindowsRow : OpenClaim := { program := "ytdplflcaanmmiaa", sum := "6cc554c40d9547e13f7b315856a3fde8a50012ae97b37ebaa16670a98d1757ad", func := "lexiphane/lexiphanelaw15.BestWindows", spec := "bestWindows", inPlace := ["slices.overlaps[byte]", "slices.overlaps[int]"], unfollowed := true, recurses := true, apart := false }
def BestWindowsSaid : Prop := bestWindowsRow.holds Try.pinned (OpenSpec.ofChange bestWindowsSpec)

/-- ITS FALSE NEIGHBOUR: 'it returns false'. Refute it at one input. -/
def bestWindowsWrong : ChangeSpec := { name := "bestWindows", fn := fun _ => fun
  | [d1, d2, d3, d4] => { results := [.lit (.bool false)], args := [d1, d2, d3, d4] }
  | _ => none }
def BestWindowsWrongFalsely : Prop := bestWindowsRow.holds Try.pinned (OpenSpec.ofChange bestWindowsWrong)

/-- 'lexiphanelaw15.BestMore': WHATEVER THE INPUT: true; the input reads as it did. -/
def bestMoreSpec : ChangeSpec := { name := "bestMore", fn := fun _ => fun
  | [d1, d2, d3] => { results := [.lit (.bool true)], args := [d1, d2, d3] }
  | _ => none }
def bestMoreRow : OpenClaim := { program := "ytdplflcaanmmiaa", sum := "6cc554c40d9547e13f7b315856a3fde8a50012ae97b37ebaa16670a98d1757ad", func := "lexiphane/lexiphanelaw15.BestMore", spec := "bestMore", inPlace := ["slices.overlaps[byte]", "slices.overlaps[int]"], unfollowed := true, recurses := true, apart := false }
def BestMoreSaid : Prop := bestMoreRow.holds Try.pinned (OpenSpec.ofChange bestMoreSpec)

/-- ITS FALSE NEIGHBOUR: 'it returns false'. Refute it at one input. -/
def bestMoreWrong : ChangeSpec := { name := "bestMore", fn := fun _ => fun
  | [d1, d2, d3] => { results := [.lit (.bool false)], args := [d1, d2, d3] }
  | _ => none }
def BestMoreWrongFalsely : Prop := bestMoreRow.holds Try.pinned (OpenSpec.ofChange bestMoreWrong)

/-- 'lexiphanelaw15.BestWhole': WHATEVER THE INPUT: true; the input reads as it did. -/
def bestWholeSpec : ChangeSpec := { name := "bestWhole", fn := fun _ => fun
  | [d] => { results := [.lit (.bool true)], args := [d] }
  | _ => none }
def bestWholeRow : OpenClaim := { program := "ytdplflcaanmmiaa", sum := "6cc554c40d9547e13f7b315856a3fde8a50012ae97b37ebaa16670a98d1757ad", func := "lexiphane/lexiphanelaw15.BestWhole", spec := "bestWhole", inPlace := ["slices.overlaps[byte]", "slices.overlaps[int]"], unfollowed := true, recurses := true, apart := false }
def BestWholeSaid : Prop := bestWholeRow.holds Try.pinned (OpenSpec.ofChange bestWholeSpec)

/-- ITS FALSE NEIGHBOUR: 'it returns false'. Refute it at one input. -/
def bestWholeWrong : ChangeSpec := { name := "bestWhole", fn := fun _ => fun
  | [d] => { results := [.lit (.bool false)], args := [d] }
  | _ => none }
def BestWholeWrongFalsely : Prop := bestWholeRow.holds Try.pinned (OpenSpec.ofChange bestWholeWrong)

/- THE SECOND FORM. 'bulk': how many values and letters a reading holds, each counted each time it is reached (what is shared counts as often as it is met; a slice's spare places count too). A statement '..UptoSaid' is the law's where the arguments, and the package variables that the reading takes, are together of bulk at most 1048576: NARROWER than '..Said'. Prove '..Said' where nothing that the law and all that it calls make is longer than what came in: it says more and counts as full. Else prove '..UptoSaid'. A law counts once. -/
mutual
def uptoBulk {H : Type} : DataW H → Nat
  | .lit (.string bytes) => bytes.length + 1
  | .lit _ => 1
  | .nil => 1
  | .ptr d => uptoBulk d + 1
  | .slice elems spare => uptoBulkAll elems + uptoBulkAll spare + 1
  | .agg parts => uptoBulkAll parts + 1
  | .iface _ d => uptoBulk d + 1
  | .map entries => uptoBulkEntries entries + 1
  | .held _ => 1
def uptoBulkAll {H : Type} : List (DataW H) → Nat
  | [] => 0
  | d :: r => uptoBulk d + uptoBulkAll r
def uptoBulkEntries {H : Type} : List (Lit × DataW H) → Nat
  | [] => 0
  | x :: r => uptoBulkEntry x + uptoBulkEntries r
def uptoBulkEntry {H : Type} : Lit × DataW H → Nat
  | (.string bytes, d) => bytes.length + uptoBulk d + 1
  | (_, d) => uptoBulk d + 1
 end
def uptoSmall : (H : Type) → List (DataW H) → Bool := fun _ ds => decide (uptoBulkAll ds ≤ 1048576)
def OpenSpec.upto (s : _root_.Go.ChangeSpec) : _root_.Go.OpenSpec := { _root_.Go.OpenSpec.ofChange s with cond := some uptoSmall }

/-- 'lexiphanelaw15.BestCosts', WHERE WHAT IT READS IS OF BULK AT MOST 1048576: true; the input reads as it did. -/
def bestCostsUptoRow : OpenClaim := { program := "ytdplflcaanmmiaa", sum := "6cc554c40d9547e13f7b315856a3fde8a50012ae97b37ebaa16670a98d1757ad", func := "lexiphane/lexiphanelaw15.BestCosts", spec := "bestCosts", inPlace := ["slices.overlaps[byte]", "slices.overlaps[int]"], unfollowed := true, recurses := true, apart := false, narrowed := true }
def BestCostsUptoSaid : Prop := bestCostsUptoRow.holds Try.pinned (OpenSpec.upto bestCostsSpec)

/-- 'lexiphanelaw15.BestWindows', WHERE WHAT IT READS IS OF BULK AT MOST 1048576: true; the input reads as it did. -/
def bestWindowsUptoRow : OpenClaim := { program := "ytdplflcaanmmiaa", sum := "6cc554c40d9547e13f7b315856a3fde8a50012ae97b37ebaa16670a98d1757ad", func := "lexiphane/lexiphanelaw15.BestWindows", spec := "bestWindows", inPlace := ["slices.overlaps[byte]", "slices.overlaps[int]"], unfollowed := true, recurses := true, apart := false, narrowed := true }
def BestWindowsUptoSaid : Prop := bestWindowsUptoRow.holds Try.pinned (OpenSpec.upto bestWindowsSpec)

/-- 'lexiphanelaw15.BestMore', WHERE WHAT IT READS IS OF BULK AT MOST 1048576: true; the input reads as it did. -/
def bestMoreUptoRow : OpenClaim := { program := "ytdplflcaanmmiaa", sum := "6cc554c40d9547e13f7b315856a3fde8a50012ae97b37ebaa16670a98d1757ad", func := "lexiphane/lexiphanelaw15.BestMore", spec := "bestMore", inPlace := ["slices.overlaps[byte]", "slices.overlaps[int]"], unfollowed := true, recurses := true, apart := false, narrowed := true }
def BestMoreUptoSaid : Prop := bestMoreUptoRow.holds Try.pinned (OpenSpec.upto bestMoreSpec)

/-- 'lexiphanelaw15.BestWhole', WHERE WHAT IT READS IS OF BULK AT MOST 1048576: true; the input reads as it did. -/
def bestWholeUptoRow : OpenClaim := { program := "ytdplflcaanmmiaa", sum := "6cc554c40d9547e13f7b315856a3fde8a50012ae97b37ebaa16670a98d1757ad", func := "lexiphane/lexiphanelaw15.BestWhole", spec := "bestWhole", inPlace := ["slices.overlaps[byte]", "slices.overlaps[int]"], unfollowed := true, recurses := true, apart := false, narrowed := true }
def BestWholeUptoSaid : Prop := bestWholeUptoRow.holds Try.pinned (OpenSpec.upto bestWholeSpec)

end Rows
end Go.Proofs.Ytdplflcaanmmiaa
