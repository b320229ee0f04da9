/-
  No cell of these rows narrows 'for every input' (looked for: loops, veiled, ifaces, maps, wideKeys, modest, calm, conditions, laid).
  DERIVED. THE GIVEN ROWS OF THIS SEAT. 3 by the template 'for every input the law returns true; each argument reads behind the call as it read before'; 0 by the template 'total and deterministic' (their statements: YtcbnlhgkihhakaaTotals.lean).
  GIVEN WITH THE SEED: the statements are not yours to turn. If you find one false, say at which input.
  Laid BY PROGRAM, IN A SANDBOX (cutbox-rows.mjs): the forced cells as the released guide's own fill.sh prints them over the translation 0df23bea7dd0ba2e… (all of the seat's roots in one cut). By AI agents, Wed Nov 11 2026. No macro, syntax, notation, axiom, sorry.
-/
import Derived.Test.YtcbnlhgkihhakaaChecked
import GoSem.Claim
import GoSem.ClaimJoined
import GoSem.ClaimMapViews
import Derived.JoinedTies
import Derived.KernelRfl
namespace Go.Proofs.Ytcbnlhgkihhakaa
/- THE CELL 'sum', in the pinned program and in every row, IS THE sha256 OF THE DUMP (.gsa) THAT YtcbnlhgkihhakaaProg.lean LOADS. Nothing in Lean hashes anything: it is a label: what it is worth is what the hold of that sum in a sandbox is worth. -/
noncomputable def Try.pinned : Pinned := { name := "ytcbnlhgkihhakaa", sum := "0df23bea7dd0ba2e3fbe74142bfee10b01858a63464e95f3f6d7d1d5c50a1048", checked := Try.checked }
namespace Rows
def none {H : Type} : Left H := { results := [], args := [] }

/-- 'lexiphanelaw10.DenseWalks': WHATEVER THE INPUT: true; the input reads as it did. -/
def denseWalksSpec : ChangeSpec := { name := "denseWalks", fn := fun _ => fun
  | [d1, d2] => { results := [.lit (.bool true)], args := [d1, d2] }
  | _ => none }
def denseWalksRow : OpenClaim := { program := "ytcbnlhgkihhakaa", sum := "0df23bea7dd0ba2e3fbe74142bfee10b01858a63464e95f3f6d7d1d5c50a1048", func := "lexiphane/lexiphanelaw10.DenseWalks", spec := "denseWalks", inPlace := ["slices.overlaps[byte]", "slices.overlaps[int]"], unfollowed := true, recurses := true, apart := false }
def DenseWalksSaid : Prop := denseWalksRow.holds Try.pinned (OpenSpec.ofChange denseWalksSpec)

/-- ITS FALSE NEIGHBOUR: 'it returns false'. Refute it at one input. -/
def denseWalksWrong : ChangeSpec := { name := "denseWalks", fn := fun _ => fun
  | [d1, d2] => { results := [.lit (.bool false)], args := [d1, d2] }
  | _ => none }
def DenseWalksWrongFalsely : Prop := denseWalksRow.holds Try.pinned (OpenSpec.ofChange denseWalksWrong)

/-- 'lexiphanelaw10.DenseRows': WHATEVER THE INPUT: true; the input reads as it did. -/
def denseRowsSpec : ChangeSpec := { name := "denseRows", fn := fun _ => fun
  | [d1, d2] => { results := [.lit (.bool true)], args := [d1, d2] }
  | _ => none }
def denseRowsRow : OpenClaim := { program := "ytcbnlhgkihhakaa", sum := "0df23bea7dd0ba2e3fbe74142bfee10b01858a63464e95f3f6d7d1d5c50a1048", func := "lexiphane/lexiphanelaw10.DenseRows", spec := "denseRows", inPlace := ["slices.overlaps[byte]", "slices.overlaps[int]"], unfollowed := true, recurses := true, apart := false }
def DenseRowsSaid : Prop := denseRowsRow.holds Try.pinned (OpenSpec.ofChange denseRowsSpec)

/-- ITS FALSE NEIGHBOUR: 'it returns false'. Refute it at one input. -/
def denseRowsWrong : ChangeSpec := { name := "denseRows", fn := fun _ => fun
  | [d1, d2] => { results := [.lit (.bool false)], args := [d1, d2] }
  | _ => none }
def DenseRowsWrongFalsely : Prop := denseRowsRow.holds Try.pinned (OpenSpec.ofChange denseRowsWrong)

/-- 'lexiphanelaw10.DenseNone': WHATEVER THE INPUT: true; the input reads as it did. -/
def denseNoneSpec : ChangeSpec := { name := "denseNone", fn := fun _ => fun
  | [d1, d2, d3] => { results := [.lit (.bool true)], args := [d1, d2, d3] }
  | _ => none }
def denseNoneRow : OpenClaim := { program := "ytcbnlhgkihhakaa", sum := "0df23bea7dd0ba2e3fbe74142bfee10b01858a63464e95f3f6d7d1d5c50a1048", func := "lexiphane/lexiphanelaw10.DenseNone", spec := "denseNone", inPlace := ["slices.overlaps[byte]", "slices.overlaps[int]"], unfollowed := true, recurses := true, apart := false }
def DenseNoneSaid : Prop := denseNoneRow.holds Try.pinned (OpenSpec.ofChange denseNoneSpec)

/-- ITS FALSE NEIGHBOUR: 'it returns false'. Refute it at one input. -/
def denseNoneWrong : ChangeSpec := { name := "denseNone", fn := fun _ => fun
  | [d1, d2, d3] => { results := [.lit (.bool false)], args := [d1, d2, d3] }
  | _ => none }
def DenseNoneWrongFalsely : Prop := denseNoneRow.holds Try.pinned (OpenSpec.ofChange denseNoneWrong)

/- THE SECOND FORM. 'bulk': how many values and letters a reading holds, each counted each time it is reached (what is shared counts as often as it is met; a slice's spare places count too). A statement '..UptoSaid' is the law's where the arguments, and the package variables that the reading takes, are together of bulk at most 1048576: NARROWER than '..Said'. Prove '..Said' where nothing that the law and all that it calls make is longer than what came in: it says more and counts as full. Else prove '..UptoSaid'. A law counts once. -/
mutual
def uptoBulk {H : Type} : DataW H → Nat
  | .lit (.string bytes) => bytes.length + 1
  | .lit _ => 1
  | .nil => 1
  | .ptr d => uptoBulk d + 1
  | .slice elems spare => uptoBulkAll elems + uptoBulkAll spare + 1
  | .agg parts => uptoBulkAll parts + 1
  | .iface _ d => uptoBulk d + 1
  | .map entries => uptoBulkEntries entries + 1
  | .held _ => 1
def uptoBulkAll {H : Type} : List (DataW H) → Nat
  | [] => 0
  | d :: r => uptoBulk d + uptoBulkAll r
def uptoBulkEntries {H : Type} : List (Lit × DataW H) → Nat
  | [] => 0
  | x :: r => uptoBulkEntry x + uptoBulkEntries r
def uptoBulkEntry {H : Type} : Lit × DataW H → Nat
  | (.string bytes, d) => bytes.length + uptoBulk d + 1
  | (_, d) => uptoBulk d + 1
 end
def uptoSmall : (H : Type) → List (DataW H) → Bool := fun _ ds => decide (uptoBulkAll ds ≤ 1048576)
def OpenSpec.upto (s : _root_.Go.ChangeSpec) : _root_.Go.OpenSpec := { _root_.Go.OpenSpec.ofChange s with cond := some uptoSmall }

/-- 'lexiphanelaw10.DenseWalks', WHERE WHAT IT READS IS OF BULK AT MOST 1048576: true; the input reads as it did. -/
def denseWalksUptoRow : OpenClaim := { program := "ytcbnlhgkihhakaa", sum := "0df23bea7dd0ba2e3fbe74142bfee10b01858a63464e95f3f6d7d1d5c50a1048", func := "lexiphane/lexiphanelaw10.DenseWalks", spec := "denseWalks", inPlace := ["slices.overlaps[byte]", "slices.overlaps[int]"], unfollowed := true, recurses := true, apart := false, narrowed := true }
def DenseWalksUptoSaid : Prop := denseWalksUptoRow.holds Try.pinned (OpenSpec.upto denseWalksSpec)

/-- 'lexiphanelaw10.DenseRows', WHERE WHAT IT READS IS OF BULK AT MOST 1048576: true; the input reads as it did. -/
def denseRowsUptoRow : OpenClaim := { program := "ytcbnlhgkihhakaa", sum := "0df23bea7dd0ba2e3fbe74142bfee10b01858a63464e95f3f6d7d1d5c50a1048", func := "lexiphane/lexiphanelaw10.DenseRows", spec := "denseRows", inPlace := ["slices.overlaps[byte]", "slices.overlaps[int]"], unfollowed := true, recurses := true, apart := false, narrowed := true }
def DenseRowsUptoSaid : Prop := denseRowsUptoRow.holds Try.pinned (OpenSpec.upto denseRowsSpec)

/-- 'lexiphanelaw10.DenseNone', WHERE WHAT IT READS IS OF BULK AT MOST 1048576: true; the input reads as it did. -/
def denseNoneUptoRow : OpenClaim := { program := "ytcbnlhgkihhakaa", sum := "0df23bea7dd0ba2e3fbe74142bfee10b01858a63464e95f3f6d7d1d5c50a1048", func := "lexiphane/lexiphanelaw10.DenseNone", spec := "denseNone", inPlace := ["slices.overlaps[byte]", "slices.overlaps[int]"], unfollowed := true, recurses := true, apart := false, narrowed := true }
def DenseNoneUptoSaid : Prop := denseNoneUptoRow.holds Try.pinned (OpenSpec.upto denseNoneSpec)

end Rows
end Go.Proofs.Ytcbnlhgkihhakaa
