/-
  No cell of these rows narrows 'for every input' (looked for: loops, veiled, ifaces, maps, wideKeys, modest, calm, conditions, laid).
  DERIVED. THE GIVEN ROWS OF THIS SEAT. 6 by the template 'for every input the law returns true; each argument reads behind the call as it read before'; 0 by the template 'total and deterministic' (their statements: YtbeahodgkdbidaaTotals.lean).
  GIVEN WITH THE SEED: the statements are not yours to turn. If you find one false, say at which input.
  Laid BY PROGRAM, IN A SANDBOX (cutbox-rows.mjs): the forced cells as the released guide's own fill.sh prints them over the translation 7671d747e214beb1… (all of the seat's roots in one cut). By AI agents, Wed Nov 11 2026. No macro, syntax, notation, axiom, sorry.
-/
import Derived.Test.YtbeahodgkdbidaaChecked
import GoSem.Claim
import GoSem.ClaimJoined
import GoSem.ClaimMapViews
import Derived.JoinedTies
import Derived.KernelRfl
namespace Go.Proofs.Ytbeahodgkdbidaa
/- THE CELL 'sum', in the pinned program and in every row, IS THE sha256 OF THE DUMP (.gsa) THAT YtbeahodgkdbidaaProg.lean LOADS. Nothing in Lean hashes anything: it is a label: what it is worth is what the hold of that sum in a sandbox is worth. -/
noncomputable def Try.pinned : Pinned := { name := "ytbeahodgkdbidaa", sum := "7671d747e214beb1c12dcd36bdbb0346e78bffe35f3afdbe5907a7a2e2beb539", checked := Try.checked }
namespace Rows
def none {H : Type} : Left H := { results := [], args := [] }

/-- 'lexiphanelaw6.DictTells': WHATEVER THE INPUT: true; the input reads as it did. -/
def dictTellsSpec : ChangeSpec := { name := "dictTells", fn := fun _ => fun
  | [d1, d2, d3] => { results := [.lit (.bool true)], args := [d1, d2, d3] }
  | _ => none }
def dictTellsRow : OpenClaim := { program := "ytbeahodgkdbidaa", sum := "7671d747e214beb1c12dcd36bdbb0346e78bffe35f3afdbe5907a7a2e2beb539", func := "lexiphane/lexiphanelaw6.DictTells", spec := "dictTells", inPlace := ["internal/abi.NoEscape"], apart := false }
def DictTellsSaid : Prop := dictTellsRow.holds Try.pinned (OpenSpec.ofChange dictTellsSpec)

/-- ITS FALSE NEIGHBOUR: 'it returns false'. Refute it at one input. -/
def dictTellsWrong : ChangeSpec := { name := "dictTells", fn := fun _ => fun
  | [d1, d2, d3] => { results := [.lit (.bool false)], args := [d1, d2, d3] }
  | _ => none }
def DictTellsWrongFalsely : Prop := dictTellsRow.holds Try.pinned (OpenSpec.ofChange dictTellsWrong)

/-- 'lexiphanelaw6.DictLoads': WHATEVER THE INPUT: true; the input reads as it did. -/
def dictLoadsSpec : ChangeSpec := { name := "dictLoads", fn := fun _ => fun
  | [d] => { results := [.lit (.bool true)], args := [d] }
  | _ => none }
def dictLoadsRow : OpenClaim := { program := "ytbeahodgkdbidaa", sum := "7671d747e214beb1c12dcd36bdbb0346e78bffe35f3afdbe5907a7a2e2beb539", func := "lexiphane/lexiphanelaw6.DictLoads", spec := "dictLoads", inPlace := ["internal/abi.NoEscape"], apart := false }
def DictLoadsSaid : Prop := dictLoadsRow.holds Try.pinned (OpenSpec.ofChange dictLoadsSpec)

/-- ITS FALSE NEIGHBOUR: 'it returns false'. Refute it at one input. -/
def dictLoadsWrong : ChangeSpec := { name := "dictLoads", fn := fun _ => fun
  | [d] => { results := [.lit (.bool false)], args := [d] }
  | _ => none }
def DictLoadsWrongFalsely : Prop := dictLoadsRow.holds Try.pinned (OpenSpec.ofChange dictLoadsWrong)

/-- 'lexiphanelaw6.DictFirst': WHATEVER THE INPUT: true; the input reads as it did. -/
def dictFirstSpec : ChangeSpec := { name := "dictFirst", fn := fun _ => fun
  | [d] => { results := [.lit (.bool true)], args := [d] }
  | _ => none }
def dictFirstRow : OpenClaim := { program := "ytbeahodgkdbidaa", sum := "7671d747e214beb1c12dcd36bdbb0346e78bffe35f3afdbe5907a7a2e2beb539", func := "lexiphane/lexiphanelaw6.DictFirst", spec := "dictFirst", inPlace := ["internal/abi.NoEscape"], unfollowed := true, recurses := true, apart := false }
def DictFirstSaid : Prop := dictFirstRow.holds Try.pinned (OpenSpec.ofChange dictFirstSpec)

/-- ITS FALSE NEIGHBOUR: 'it returns false'. Refute it at one input. -/
def dictFirstWrong : ChangeSpec := { name := "dictFirst", fn := fun _ => fun
  | [d] => { results := [.lit (.bool false)], args := [d] }
  | _ => none }
def DictFirstWrongFalsely : Prop := dictFirstRow.holds Try.pinned (OpenSpec.ofChange dictFirstWrong)

/-- 'lexiphanelaw6.DictOrder': WHATEVER THE INPUT: true; the input reads as it did. -/
def dictOrderSpec : ChangeSpec := { name := "dictOrder", fn := fun _ => fun
  | [d1, d2, d3] => { results := [.lit (.bool true)], args := [d1, d2, d3] }
  | _ => none }
def dictOrderRow : OpenClaim := { program := "ytbeahodgkdbidaa", sum := "7671d747e214beb1c12dcd36bdbb0346e78bffe35f3afdbe5907a7a2e2beb539", func := "lexiphane/lexiphanelaw6.DictOrder", spec := "dictOrder", inPlace := ["internal/abi.NoEscape"], apart := false }
def DictOrderSaid : Prop := dictOrderRow.holds Try.pinned (OpenSpec.ofChange dictOrderSpec)

/-- ITS FALSE NEIGHBOUR: 'it returns false'. Refute it at one input. -/
def dictOrderWrong : ChangeSpec := { name := "dictOrder", fn := fun _ => fun
  | [d1, d2, d3] => { results := [.lit (.bool false)], args := [d1, d2, d3] }
  | _ => none }
def DictOrderWrongFalsely : Prop := dictOrderRow.holds Try.pinned (OpenSpec.ofChange dictOrderWrong)

/-- 'lexiphanelaw6.DictBounds': WHATEVER THE INPUT: true; the input reads as it did. -/
def dictBoundsSpec : ChangeSpec := { name := "dictBounds", fn := fun _ => fun
  | [d1, d2, d3] => { results := [.lit (.bool true)], args := [d1, d2, d3] }
  | _ => none }
def dictBoundsRow : OpenClaim := { program := "ytbeahodgkdbidaa", sum := "7671d747e214beb1c12dcd36bdbb0346e78bffe35f3afdbe5907a7a2e2beb539", func := "lexiphane/lexiphanelaw6.DictBounds", spec := "dictBounds", inPlace := ["internal/abi.NoEscape"], apart := false }
def DictBoundsSaid : Prop := dictBoundsRow.holds Try.pinned (OpenSpec.ofChange dictBoundsSpec)

/-- ITS FALSE NEIGHBOUR: 'it returns false'. Refute it at one input. -/
def dictBoundsWrong : ChangeSpec := { name := "dictBounds", fn := fun _ => fun
  | [d1, d2, d3] => { results := [.lit (.bool false)], args := [d1, d2, d3] }
  | _ => none }
def DictBoundsWrongFalsely : Prop := dictBoundsRow.holds Try.pinned (OpenSpec.ofChange dictBoundsWrong)

/-- 'lexiphanelaw6.DictCuts': WHATEVER THE INPUT: true; the input reads as it did. -/
def dictCutsSpec : ChangeSpec := { name := "dictCuts", fn := fun _ => fun
  | [d1, d2, d3] => { results := [.lit (.bool true)], args := [d1, d2, d3] }
  | _ => none }
def dictCutsRow : OpenClaim := { program := "ytbeahodgkdbidaa", sum := "7671d747e214beb1c12dcd36bdbb0346e78bffe35f3afdbe5907a7a2e2beb539", func := "lexiphane/lexiphanelaw6.DictCuts", spec := "dictCuts", inPlace := ["internal/abi.NoEscape"], apart := false }
def DictCutsSaid : Prop := dictCutsRow.holds Try.pinned (OpenSpec.ofChange dictCutsSpec)

/-- ITS FALSE NEIGHBOUR: 'it returns false'. Refute it at one input. -/
def dictCutsWrong : ChangeSpec := { name := "dictCuts", fn := fun _ => fun
  | [d1, d2, d3] => { results := [.lit (.bool false)], args := [d1, d2, d3] }
  | _ => none }
def DictCutsWrongFalsely : Prop := dictCutsRow.holds Try.pinned (OpenSpec.ofChange dictCutsWrong)

/- THE SECOND FORM. 'bulk': how many values and letters a reading holds, each counted each time it is reached (what is shared counts as often as it is met; a slice's spare places count too). A statement '..UptoSaid' is the law's where the arguments, and the package variables that the reading takes, are together of bulk at most 1048576: NARROWER than '..Said'. Prove '..Said' where nothing that the law and all that it calls make is longer than what came in: it says more and counts as full. Else prove '..UptoSaid'. A law counts once. -/
mutual
def uptoBulk {H : Type} : DataW H → Nat
  | .lit (.string bytes) => bytes.length + 1
  | .lit _ => 1
  | .nil => 1
  | .ptr d => uptoBulk d + 1
  | .slice elems spare => uptoBulkAll elems + uptoBulkAll spare + 1
  | .agg parts => uptoBulkAll parts + 1
  | .iface _ d => uptoBulk d + 1
  | .map entries => uptoBulkEntries entries + 1
  | .held _ => 1
def uptoBulkAll {H : Type} : List (DataW H) → Nat
  | [] => 0
  | d :: r => uptoBulk d + uptoBulkAll r
def uptoBulkEntries {H : Type} : List (Lit × DataW H) → Nat
  | [] => 0
  | x :: r => uptoBulkEntry x + uptoBulkEntries r
def uptoBulkEntry {H : Type} : Lit × DataW H → Nat
  | (.string bytes, d) => bytes.length + uptoBulk d + 1
  | (_, d) => uptoBulk d + 1
 end
def uptoSmall : (H : Type) → List (DataW H) → Bool := fun _ ds => decide (uptoBulkAll ds ≤ 1048576)
def OpenSpec.upto (s : _root_.Go.ChangeSpec) : _root_.Go.OpenSpec := { _root_.Go.OpenSpec.ofChange s with cond := some uptoSmall }

/-- 'lexiphanelaw6.DictTells', WHERE WHAT IT READS IS OF BULK AT MOST 1048576: true; the input reads as it did. -/
def dictTellsUptoRow : OpenClaim := { program := "ytbeahodgkdbidaa", sum := "7671d747e214beb1c12dcd36bdbb0346e78bffe35f3afdbe5907a7a2e2beb539", func := "lexiphane/lexiphanelaw6.DictTells", spec := "dictTells", inPlace := ["internal/abi.NoEscape"], apart := false, narrowed := true }
def DictTellsUptoSaid : Prop := dictTellsUptoRow.holds Try.pinned (OpenSpec.upto dictTellsSpec)

/-- 'lexiphanelaw6.DictLoads', WHERE WHAT IT READS IS OF BULK AT MOST 1048576: true; the input reads as it did. -/
def dictLoadsUptoRow : OpenClaim := { program := "ytbeahodgkdbidaa", sum := "7671d747e214beb1c12dcd36bdbb0346e78bffe35f3afdbe5907a7a2e2beb539", func := "lexiphane/lexiphanelaw6.DictLoads", spec := "dictLoads", inPlace := ["internal/abi.NoEscape"], apart := false, narrowed := true }
def DictLoadsUptoSaid : Prop := dictLoadsUptoRow.holds Try.pinned (OpenSpec.upto dictLoadsSpec)

/-- 'lexiphanelaw6.DictFirst', WHERE WHAT IT READS IS OF BULK AT MOST 1048576: true; the input reads as it did. -/
def dictFirstUptoRow : OpenClaim := { program := "ytbeahodgkdbidaa", sum := "7671d747e214beb1c12dcd36bdbb0346e78bffe35f3afdbe5907a7a2e2beb539", func := "lexiphane/lexiphanelaw6.DictFirst", spec := "dictFirst", inPlace := ["internal/abi.NoEscape"], unfollowed := true, recurses := true, apart := false, narrowed := true }
def DictFirstUptoSaid : Prop := dictFirstUptoRow.holds Try.pinned (OpenSpec.upto dictFirstSpec)

/-- 'lexiphanelaw6.DictOrder', WHERE WHAT IT READS IS OF BULK AT MOST 1048576: true; the input reads as it did. -/
def dictOrderUptoRow : OpenClaim := { program := "ytbeahodgkdbidaa", sum := "7671d747e214beb1c12dcd36bdbb0346e78bffe35f3afdbe5907a7a2e2beb539", func := "lexiphane/lexiphanelaw6.DictOrder", spec := "dictOrder", inPlace := ["internal/abi.NoEscape"], apart := false, narrowed := true }
def DictOrderUptoSaid : Prop := dictOrderUptoRow.holds Try.pinned (OpenSpec.upto dictOrderSpec)

/-- 'lexiphanelaw6.DictBounds', WHERE WHAT IT READS IS OF BULK AT MOST 1048576: true; the input reads as it did. -/
def dictBoundsUptoRow : OpenClaim := { program := "ytbeahodgkdbidaa", sum := "7671d747e214beb1c12dcd36bdbb0346e78bffe35f3afdbe5907a7a2e2beb539", func := "lexiphane/lexiphanelaw6.DictBounds", spec := "dictBounds", inPlace := ["internal/abi.NoEscape"], apart := false, narrowed := true }
def DictBoundsUptoSaid : Prop := dictBoundsUptoRow.holds Try.pinned (OpenSpec.upto dictBoundsSpec)

/-- 'lexiphanelaw6.DictCuts', WHERE WHAT IT READS IS OF BULK AT MOST 1048576: true; the input reads as it did. -/
def dictCutsUptoRow : OpenClaim := { program := "ytbeahodgkdbidaa", sum := "7671d747e214beb1c12dcd36bdbb0346e78bffe35f3afdbe5907a7a2e2beb539", func := "lexiphane/lexiphanelaw6.DictCuts", spec := "dictCuts", inPlace := ["internal/abi.NoEscape"], apart := false, narrowed := true }
def DictCutsUptoSaid : Prop := dictCutsUptoRow.holds Try.pinned (OpenSpec.upto dictCutsSpec)

end Rows
end Go.Proofs.Ytbeahodgkdbidaa
