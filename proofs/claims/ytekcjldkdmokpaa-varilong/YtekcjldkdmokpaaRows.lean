/-
  No cell of these rows narrows 'for every input' (looked for: loops, veiled, ifaces, maps, wideKeys, modest, calm, conditions, laid).
  DERIVED. THE GIVEN ROWS OF THIS SEAT. 5 by the template 'for every input the law returns true; each argument reads behind the call as it read before'; 0 by the template 'total and deterministic' (their statements: YtekcjldkdmokpaaTotals.lean).
  GIVEN WITH THE SEED: the statements are not yours to turn. If you find one false, say at which input.
  Laid BY PROGRAM, IN A SANDBOX (cutbox-rows.mjs): the forced cells as the released guide's own fill.sh prints them over the translation ecafaa7865f06ed6… (all of the seat's roots in one cut). By AI agents, Wed Nov 11 2026. No macro, syntax, notation, axiom, sorry.
-/
import Derived.Test.YtekcjldkdmokpaaChecked
import GoSem.Claim
import GoSem.ClaimJoined
import GoSem.ClaimMapViews
import Derived.JoinedTies
import Derived.KernelRfl
namespace Go.Proofs.Ytekcjldkdmokpaa
/- THE CELL 'sum', in the pinned program and in every row, IS THE sha256 OF THE DUMP (.gsa) THAT YtekcjldkdmokpaaProg.lean LOADS. Nothing in Lean hashes anything: it is a label: what it is worth is what the hold of that sum in a sandbox is worth. -/
noncomputable def Try.pinned : Pinned := { name := "ytekcjldkdmokpaa", sum := "ecafaa7865f06ed6fae81d60e25130e1db8cb26897c3ec832dc3c0b5c25af6cf", checked := Try.checked }
namespace Rows
def none {H : Type} : Left H := { results := [], args := [] }

/-- 'lexiphanelaw3.VariTells': WHATEVER THE INPUT: true; the input reads as it did. -/
def variTellsSpec : ChangeSpec := { name := "variTells", fn := fun _ => fun
  | [d1, d2] => { results := [.lit (.bool true)], args := [d1, d2] }
  | _ => none }
def variTellsRow : OpenClaim := { program := "ytekcjldkdmokpaa", sum := "ecafaa7865f06ed6fae81d60e25130e1db8cb26897c3ec832dc3c0b5c25af6cf", func := "lexiphane/lexiphanelaw3.VariTells", spec := "variTells", apart := false }
def VariTellsSaid : Prop := variTellsRow.holds Try.pinned (OpenSpec.ofChange variTellsSpec)

/-- ITS FALSE NEIGHBOUR: 'it returns false'. Refute it at one input. -/
def variTellsWrong : ChangeSpec := { name := "variTells", fn := fun _ => fun
  | [d1, d2] => { results := [.lit (.bool false)], args := [d1, d2] }
  | _ => none }
def VariTellsWrongFalsely : Prop := variTellsRow.holds Try.pinned (OpenSpec.ofChange variTellsWrong)

/-- 'lexiphanelaw3.VariOnce': WHATEVER THE INPUT: true; the input reads as it did. -/
def variOnceSpec : ChangeSpec := { name := "variOnce", fn := fun _ => fun
  | [d1, d2] => { results := [.lit (.bool true)], args := [d1, d2] }
  | _ => none }
def variOnceRow : OpenClaim := { program := "ytekcjldkdmokpaa", sum := "ecafaa7865f06ed6fae81d60e25130e1db8cb26897c3ec832dc3c0b5c25af6cf", func := "lexiphane/lexiphanelaw3.VariOnce", spec := "variOnce", apart := false }
def VariOnceSaid : Prop := variOnceRow.holds Try.pinned (OpenSpec.ofChange variOnceSpec)

/-- ITS FALSE NEIGHBOUR: 'it returns false'. Refute it at one input. -/
def variOnceWrong : ChangeSpec := { name := "variOnce", fn := fun _ => fun
  | [d1, d2] => { results := [.lit (.bool false)], args := [d1, d2] }
  | _ => none }
def VariOnceWrongFalsely : Prop := variOnceRow.holds Try.pinned (OpenSpec.ofChange variOnceWrong)

/-- 'lexiphanelaw3.VariLens': WHATEVER THE INPUT: true; the input reads as it did. -/
def variLensSpec : ChangeSpec := { name := "variLens", fn := fun _ => fun
  | [d1, d2] => { results := [.lit (.bool true)], args := [d1, d2] }
  | _ => none }
def variLensRow : OpenClaim := { program := "ytekcjldkdmokpaa", sum := "ecafaa7865f06ed6fae81d60e25130e1db8cb26897c3ec832dc3c0b5c25af6cf", func := "lexiphane/lexiphanelaw3.VariLens", spec := "variLens", apart := false }
def VariLensSaid : Prop := variLensRow.holds Try.pinned (OpenSpec.ofChange variLensSpec)

/-- ITS FALSE NEIGHBOUR: 'it returns false'. Refute it at one input. -/
def variLensWrong : ChangeSpec := { name := "variLens", fn := fun _ => fun
  | [d1, d2] => { results := [.lit (.bool false)], args := [d1, d2] }
  | _ => none }
def VariLensWrongFalsely : Prop := variLensRow.holds Try.pinned (OpenSpec.ofChange variLensWrong)

/-- 'lexiphanelaw3.VariLong': WHATEVER THE INPUT: true; the input reads as it did. -/
def variLongSpec : ChangeSpec := { name := "variLong", fn := fun _ => fun
  | [d1, d2] => { results := [.lit (.bool true)], args := [d1, d2] }
  | _ => none }
def variLongRow : OpenClaim := { program := "ytekcjldkdmokpaa", sum := "ecafaa7865f06ed6fae81d60e25130e1db8cb26897c3ec832dc3c0b5c25af6cf", func := "lexiphane/lexiphanelaw3.VariLong", spec := "variLong", apart := false }
def VariLongSaid : Prop := variLongRow.holds Try.pinned (OpenSpec.ofChange variLongSpec)

/-- ITS FALSE NEIGHBOUR: 'it returns false'. Refute it at one input. -/
def variLongWrong : ChangeSpec := { name := "variLong", fn := fun _ => fun
  | [d1, d2] => { results := [.lit (.bool false)], args := [d1, d2] }
  | _ => none }
def VariLongWrongFalsely : Prop := variLongRow.holds Try.pinned (OpenSpec.ofChange variLongWrong)

/-- 'lexiphanelaw3.VariJoins': WHATEVER THE INPUT: true; the input reads as it did. -/
def variJoinsSpec : ChangeSpec := { name := "variJoins", fn := fun _ => fun
  | [d] => { results := [.lit (.bool true)], args := [d] }
  | _ => none }
def variJoinsRow : OpenClaim := { program := "ytekcjldkdmokpaa", sum := "ecafaa7865f06ed6fae81d60e25130e1db8cb26897c3ec832dc3c0b5c25af6cf", func := "lexiphane/lexiphanelaw3.VariJoins", spec := "variJoins", apart := false }
def VariJoinsSaid : Prop := variJoinsRow.holds Try.pinned (OpenSpec.ofChange variJoinsSpec)

/-- ITS FALSE NEIGHBOUR: 'it returns false'. Refute it at one input. -/
def variJoinsWrong : ChangeSpec := { name := "variJoins", fn := fun _ => fun
  | [d] => { results := [.lit (.bool false)], args := [d] }
  | _ => none }
def VariJoinsWrongFalsely : Prop := variJoinsRow.holds Try.pinned (OpenSpec.ofChange variJoinsWrong)

/- THE SECOND FORM. 'bulk': how many values and letters a reading holds, each counted each time it is reached (what is shared counts as often as it is met; a slice's spare places count too). A statement '..UptoSaid' is the law's where the arguments, and the package variables that the reading takes, are together of bulk at most 1048576: NARROWER than '..Said'. Prove '..Said' where nothing that the law and all that it calls make is longer than what came in: it says more and counts as full. Else prove '..UptoSaid'. A law counts once. -/
mutual
def uptoBulk {H : Type} : DataW H → Nat
  | .lit (.string bytes) => bytes.length + 1
  | .lit _ => 1
  | .nil => 1
  | .ptr d => uptoBulk d + 1
  | .slice elems spare => uptoBulkAll elems + uptoBulkAll spare + 1
  | .agg parts => uptoBulkAll parts + 1
  | .iface _ d => uptoBulk d + 1
  | .map entries => uptoBulkEntries entries + 1
  | .held _ => 1
def uptoBulkAll {H : Type} : List (DataW H) → Nat
  | [] => 0
  | d :: r => uptoBulk d + uptoBulkAll r
def uptoBulkEntries {H : Type} : List (Lit × DataW H) → Nat
  | [] => 0
  | x :: r => uptoBulkEntry x + uptoBulkEntries r
def uptoBulkEntry {H : Type} : Lit × DataW H → Nat
  | (.string bytes, d) => bytes.length + uptoBulk d + 1
  | (_, d) => uptoBulk d + 1
 end
def uptoSmall : (H : Type) → List (DataW H) → Bool := fun _ ds => decide (uptoBulkAll ds ≤ 1048576)
def OpenSpec.upto (s : _root_.Go.ChangeSpec) : _root_.Go.OpenSpec := { _root_.Go.OpenSpec.ofChange s with cond := some uptoSmall }

/-- 'lexiphanelaw3.VariTells', WHERE WHAT IT READS IS OF BULK AT MOST 1048576: true; the input reads as it did. -/
def variTellsUptoRow : OpenClaim := { program := "ytekcjldkdmokpaa", sum := "ecafaa7865f06ed6fae81d60e25130e1db8cb26897c3ec832dc3c0b5c25af6cf", func := "lexiphane/lexiphanelaw3.VariTells", spec := "variTells", apart := false, narrowed := true }
def VariTellsUptoSaid : Prop := variTellsUptoRow.holds Try.pinned (OpenSpec.upto variTellsSpec)

/-- 'lexiphanelaw3.VariOnce', WHERE WHAT IT READS IS OF BULK AT MOST 1048576: true; the input reads as it did. -/
def variOnceUptoRow : OpenClaim := { program := "ytekcjldkdmokpaa", sum := "ecafaa7865f06ed6fae81d60e25130e1db8cb26897c3ec832dc3c0b5c25af6cf", func := "lexiphane/lexiphanelaw3.VariOnce", spec := "variOnce", apart := false, narrowed := true }
def VariOnceUptoSaid : Prop := variOnceUptoRow.holds Try.pinned (OpenSpec.upto variOnceSpec)

/-- 'lexiphanelaw3.VariLens', WHERE WHAT IT READS IS OF BULK AT MOST 1048576: true; the input reads as it did. -/
def variLensUptoRow : OpenClaim := { program := "ytekcjldkdmokpaa", sum := "ecafaa7865f06ed6fae81d60e25130e1db8cb26897c3ec832dc3c0b5c25af6cf", func := "lexiphane/lexiphanelaw3.VariLens", spec := "variLens", apart := false, narrowed := true }
def VariLensUptoSaid : Prop := variLensUptoRow.holds Try.pinned (OpenSpec.upto variLensSpec)

/-- 'lexiphanelaw3.VariLong', WHERE WHAT IT READS IS OF BULK AT MOST 1048576: true; the input reads as it did. -/
def variLongUptoRow : OpenClaim := { program := "ytekcjldkdmokpaa", sum := "ecafaa7865f06ed6fae81d60e25130e1db8cb26897c3ec832dc3c0b5c25af6cf", func := "lexiphane/lexiphanelaw3.VariLong", spec := "variLong", apart := false, narrowed := true }
def VariLongUptoSaid : Prop := variLongUptoRow.holds Try.pinned (OpenSpec.upto variLongSpec)

/-- 'lexiphanelaw3.VariJoins', WHERE WHAT IT READS IS OF BULK AT MOST 1048576: true; the input reads as it did. -/
def variJoinsUptoRow : OpenClaim := { program := "ytekcjldkdmokpaa", sum := "ecafaa7865f06ed6fae81d60e25130e1db8cb26897c3ec832dc3c0b5c25af6cf", func := "lexiphane/lexiphanelaw3.VariJoins", spec := "variJoins", apart := false, narrowed := true }
def VariJoinsUptoSaid : Prop := variJoinsUptoRow.holds Try.pinned (OpenSpec.upto variJoinsSpec)

end Rows
end Go.Proofs.Ytekcjldkdmokpaa
