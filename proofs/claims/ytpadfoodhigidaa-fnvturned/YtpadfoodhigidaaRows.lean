/-
  No cell of these rows narrows 'for every input' (looked for: loops, veiled, ifaces, maps, wideKeys, modest, calm, conditions, laid).
  DERIVED. THE GIVEN ROWS OF THIS SEAT. 4 by the template 'for every input the law returns true; each argument reads behind the call as it read before'; 0 by the template 'total and deterministic' (their statements: YtpadfoodhigidaaTotals.lean).
  GIVEN WITH THE SEED: the statements are not yours to turn. If you find one false, say at which input.
  Laid BY PROGRAM, IN A SANDBOX (cutbox-rows.mjs): the forced cells as the released guide's own fill.sh prints them over the translation 10b336703a88326b… (all of the seat's roots in one cut). By AI agents, Wed Nov 11 2026. No macro, syntax, notation, axiom, sorry.
-/
import Derived.Test.YtpadfoodhigidaaChecked
import GoSem.Claim
import GoSem.ClaimJoined
import GoSem.ClaimMapViews
import Derived.JoinedTies
import Derived.KernelRfl
namespace Go.Proofs.Ytpadfoodhigidaa
/- THE CELL 'sum', in the pinned program and in every row, IS THE sha256 OF THE DUMP (.gsa) THAT YtpadfoodhigidaaProg.lean LOADS. Nothing in Lean hashes anything: it is a label: what it is worth is what the hold of that sum in a sandbox is worth. -/
noncomputable def Try.pinned : Pinned := { name := "ytpadfoodhigidaa", sum := "10b336703a88326b198eb0337f5dc0b9af1690a8e860a3c020652d059e84eded", checked := Try.checked }
namespace Rows
def none {H : Type} : Left H := { results := [], args := [] }

/-- 'lexiphanelaw5.FnvTells': WHATEVER THE INPUT: true; the input reads as it did. -/
def fnvTellsSpec : ChangeSpec := { name := "fnvTells", fn := fun _ => fun
  | [d] => { results := [.lit (.bool true)], args := [d] }
  | _ => none }
def fnvTellsRow : OpenClaim := { program := "ytpadfoodhigidaa", sum := "10b336703a88326b198eb0337f5dc0b9af1690a8e860a3c020652d059e84eded", func := "lexiphane/lexiphanelaw5.FnvTells", spec := "fnvTells", apart := false }
def FnvTellsSaid : Prop := fnvTellsRow.holds Try.pinned (OpenSpec.ofChange fnvTellsSpec)

/-- ITS FALSE NEIGHBOUR: 'it returns false'. Refute it at one input. -/
def fnvTellsWrong : ChangeSpec := { name := "fnvTells", fn := fun _ => fun
  | [d] => { results := [.lit (.bool false)], args := [d] }
  | _ => none }
def FnvTellsWrongFalsely : Prop := fnvTellsRow.holds Try.pinned (OpenSpec.ofChange fnvTellsWrong)

/-- 'lexiphanelaw5.FnvTurned': WHATEVER THE INPUT: true; the input reads as it did. -/
def fnvTurnedSpec : ChangeSpec := { name := "fnvTurned", fn := fun _ => fun
  | [d1, d2] => { results := [.lit (.bool true)], args := [d1, d2] }
  | _ => none }
def fnvTurnedRow : OpenClaim := { program := "ytpadfoodhigidaa", sum := "10b336703a88326b198eb0337f5dc0b9af1690a8e860a3c020652d059e84eded", func := "lexiphane/lexiphanelaw5.FnvTurned", spec := "fnvTurned", apart := false }
def FnvTurnedSaid : Prop := fnvTurnedRow.holds Try.pinned (OpenSpec.ofChange fnvTurnedSpec)

/-- ITS FALSE NEIGHBOUR: 'it returns false'. Refute it at one input. -/
def fnvTurnedWrong : ChangeSpec := { name := "fnvTurned", fn := fun _ => fun
  | [d1, d2] => { results := [.lit (.bool false)], args := [d1, d2] }
  | _ => none }
def FnvTurnedWrongFalsely : Prop := fnvTurnedRow.holds Try.pinned (OpenSpec.ofChange fnvTurnedWrong)

/-- 'lexiphanelaw5.FnvSteps': WHATEVER THE INPUT: true; the input reads as it did. -/
def fnvStepsSpec : ChangeSpec := { name := "fnvSteps", fn := fun _ => fun
  | [d1, d2] => { results := [.lit (.bool true)], args := [d1, d2] }
  | _ => none }
def fnvStepsRow : OpenClaim := { program := "ytpadfoodhigidaa", sum := "10b336703a88326b198eb0337f5dc0b9af1690a8e860a3c020652d059e84eded", func := "lexiphane/lexiphanelaw5.FnvSteps", spec := "fnvSteps", apart := false }
def FnvStepsSaid : Prop := fnvStepsRow.holds Try.pinned (OpenSpec.ofChange fnvStepsSpec)

/-- ITS FALSE NEIGHBOUR: 'it returns false'. Refute it at one input. -/
def fnvStepsWrong : ChangeSpec := { name := "fnvSteps", fn := fun _ => fun
  | [d1, d2] => { results := [.lit (.bool false)], args := [d1, d2] }
  | _ => none }
def FnvStepsWrongFalsely : Prop := fnvStepsRow.holds Try.pinned (OpenSpec.ofChange fnvStepsWrong)

/-- 'lexiphanelaw5.FnvPieces': WHATEVER THE INPUT: true; the input reads as it did. -/
def fnvPiecesSpec : ChangeSpec := { name := "fnvPieces", fn := fun _ => fun
  | [d1, d2] => { results := [.lit (.bool true)], args := [d1, d2] }
  | _ => none }
def fnvPiecesRow : OpenClaim := { program := "ytpadfoodhigidaa", sum := "10b336703a88326b198eb0337f5dc0b9af1690a8e860a3c020652d059e84eded", func := "lexiphane/lexiphanelaw5.FnvPieces", spec := "fnvPieces", apart := false }
def FnvPiecesSaid : Prop := fnvPiecesRow.holds Try.pinned (OpenSpec.ofChange fnvPiecesSpec)

/-- ITS FALSE NEIGHBOUR: 'it returns false'. Refute it at one input. -/
def fnvPiecesWrong : ChangeSpec := { name := "fnvPieces", fn := fun _ => fun
  | [d1, d2] => { results := [.lit (.bool false)], args := [d1, d2] }
  | _ => none }
def FnvPiecesWrongFalsely : Prop := fnvPiecesRow.holds Try.pinned (OpenSpec.ofChange fnvPiecesWrong)

/- THE SECOND FORM. 'bulk': how many values and letters a reading holds, each counted each time it is reached (what is shared counts as often as it is met; a slice's spare places count too). A statement '..UptoSaid' is the law's where the arguments, and the package variables that the reading takes, are together of bulk at most 1048576: NARROWER than '..Said'. Prove '..Said' where nothing that the law and all that it calls make is longer than what came in: it says more and counts as full. Else prove '..UptoSaid'. A law counts once. -/
mutual
def uptoBulk {H : Type} : DataW H → Nat
  | .lit (.string bytes) => bytes.length + 1
  | .lit _ => 1
  | .nil => 1
  | .ptr d => uptoBulk d + 1
  | .slice elems spare => uptoBulkAll elems + uptoBulkAll spare + 1
  | .agg parts => uptoBulkAll parts + 1
  | .iface _ d => uptoBulk d + 1
  | .map entries => uptoBulkEntries entries + 1
  | .held _ => 1
def uptoBulkAll {H : Type} : List (DataW H) → Nat
  | [] => 0
  | d :: r => uptoBulk d + uptoBulkAll r
def uptoBulkEntries {H : Type} : List (Lit × DataW H) → Nat
  | [] => 0
  | x :: r => uptoBulkEntry x + uptoBulkEntries r
def uptoBulkEntry {H : Type} : Lit × DataW H → Nat
  | (.string bytes, d) => bytes.length + uptoBulk d + 1
  | (_, d) => uptoBulk d + 1
 end
def uptoSmall : (H : Type) → List (DataW H) → Bool := fun _ ds => decide (uptoBulkAll ds ≤ 1048576)
def OpenSpec.upto (s : _root_.Go.ChangeSpec) : _root_.Go.OpenSpec := { _root_.Go.OpenSpec.ofChange s with cond := some uptoSmall }

/-- 'lexiphanelaw5.FnvTells', WHERE WHAT IT READS IS OF BULK AT MOST 1048576: true; the input reads as it did. -/
def fnvTellsUptoRow : OpenClaim := { program := "ytpadfoodhigidaa", sum := "10b336703a88326b198eb0337f5dc0b9af1690a8e860a3c020652d059e84eded", func := "lexiphane/lexiphanelaw5.FnvTells", spec := "fnvTells", apart := false, narrowed := true }
def FnvTellsUptoSaid : Prop := fnvTellsUptoRow.holds Try.pinned (OpenSpec.upto fnvTellsSpec)

/-- 'lexiphanelaw5.FnvTurned', WHERE WHAT IT READS IS OF BULK AT MOST 1048576: true; the input reads as it did. -/
def fnvTurnedUptoRow : OpenClaim := { program := "ytpadfoodhigidaa", sum := "10b336703a88326b198eb0337f5dc0b9af1690a8e860a3c020652d059e84eded", func := "lexiphane/lexiphanelaw5.FnvTurned", spec := "fnvTurned", apart := false, narrowed := true }
def FnvTurnedUptoSaid : Prop := fnvTurnedUptoRow.holds Try.pinned (OpenSpec.upto fnvTurnedSpec)

/-- 'lexiphanelaw5.FnvSteps', WHERE WHAT IT READS IS OF BULK AT MOST 1048576: true; the input reads as it did. -/
def fnvStepsUptoRow : OpenClaim := { program := "ytpadfoodhigidaa", sum := "10b336703a88326b198eb0337f5dc0b9af1690a8e860a3c020652d059e84eded", func := "lexiphane/lexiphanelaw5.FnvSteps", spec := "fnvSteps", apart := false, narrowed := true }
def FnvStepsUptoSaid : Prop := fnvStepsUptoRow.holds Try.pinned (OpenSpec.upto fnvStepsSpec)

/-- 'lexiphanelaw5.FnvPieces', WHERE WHAT IT READS IS OF BULK AT MOST 1048576: true; the input reads as it did. -/
def fnvPiecesUptoRow : OpenClaim := { program := "ytpadfoodhigidaa", sum := "10b336703a88326b198eb0337f5dc0b9af1690a8e860a3c020652d059e84eded", func := "lexiphane/lexiphanelaw5.FnvPieces", spec := "fnvPieces", apart := false, narrowed := true }
def FnvPiecesUptoSaid : Prop := fnvPiecesUptoRow.holds Try.pinned (OpenSpec.upto fnvPiecesSpec)

end Rows
end Go.Proofs.Ytpadfoodhigidaa
