/-
  No cell of these rows narrows 'for every input' (looked for: loops, veiled, ifaces, maps, wideKeys, modest, calm, conditions, laid).
  DERIVED. THE GIVEN ROWS OF THIS SEAT. 4 by the template 'for every input the law returns true; each argument reads behind the call as it read before'; 0 by the template 'total and deterministic' (their statements: YtfeibhdnmfiflaaTotals.lean).
  GIVEN WITH THE SEED: the statements are not yours to turn. If you find one false, say at which input.
  Laid BY PROGRAM, IN A SANDBOX (cutbox-rows.mjs): the forced cells as the released guide's own fill.sh prints them over the translation 22b6ed744ca187d0… (all of the seat's roots in one cut). By AI agents, Wed Nov 11 2026. No macro, syntax, notation, axiom, sorry.
-/
import Derived.Test.YtfeibhdnmfiflaaChecked
import GoSem.Claim
import GoSem.ClaimJoined
import GoSem.ClaimMapViews
import Derived.JoinedTies
import Derived.KernelRfl
namespace Go.Proofs.Ytfeibhdnmfiflaa
/- THE CELL 'sum', in the pinned program and in every row, IS THE sha256 OF THE DUMP (.gsa) THAT YtfeibhdnmfiflaaProg.lean LOADS. Nothing in Lean hashes anything: it is a label: what it is worth is what the hold of that sum in a sandbox is worth. -/
noncomputable def Try.pinned : Pinned := { name := "ytfeibhdnmfiflaa", sum := "22b6ed744ca187d042406c22c604ab69cad9c4589f47c2cd0079076bc036e922", checked := Try.checked }
namespace Rows
def none {H : Type} : Left H := { results := [], args := [] }

/-- 'lexiphanelaw11.HitsAny': WHATEVER THE INPUT: true; the input reads as it did. -/
def hitsAnySpec : ChangeSpec := { name := "hitsAny", fn := fun _ => fun
  | [d1, d2, d3] => { results := [.lit (.bool true)], args := [d1, d2, d3] }
  | _ => none }
def hitsAnyRow : OpenClaim := { program := "ytfeibhdnmfiflaa", sum := "22b6ed744ca187d042406c22c604ab69cad9c4589f47c2cd0079076bc036e922", func := "lexiphane/lexiphanelaw11.HitsAny", spec := "hitsAny", unfollowed := true, recurses := true, plainKeys := false, apart := false }
def HitsAnySaid : Prop := hitsAnyRow.holds Try.pinned (OpenSpec.ofChange hitsAnySpec)

/-- ITS FALSE NEIGHBOUR: 'it returns false'. Refute it at one input. -/
def hitsAnyWrong : ChangeSpec := { name := "hitsAny", fn := fun _ => fun
  | [d1, d2, d3] => { results := [.lit (.bool false)], args := [d1, d2, d3] }
  | _ => none }
def HitsAnyWrongFalsely : Prop := hitsAnyRow.holds Try.pinned (OpenSpec.ofChange hitsAnyWrong)

/-- 'lexiphanelaw11.HitsLongest': WHATEVER THE INPUT: true; the input reads as it did. -/
def hitsLongestSpec : ChangeSpec := { name := "hitsLongest", fn := fun _ => fun
  | [d1, d2] => { results := [.lit (.bool true)], args := [d1, d2] }
  | _ => none }
def hitsLongestRow : OpenClaim := { program := "ytfeibhdnmfiflaa", sum := "22b6ed744ca187d042406c22c604ab69cad9c4589f47c2cd0079076bc036e922", func := "lexiphane/lexiphanelaw11.HitsLongest", spec := "hitsLongest", inPlace := ["slices.overlaps[byte]", "slices.overlaps[int]"], unfollowed := true, recurses := true, plainKeys := false, apart := false }
def HitsLongestSaid : Prop := hitsLongestRow.holds Try.pinned (OpenSpec.ofChange hitsLongestSpec)

/-- ITS FALSE NEIGHBOUR: 'it returns false'. Refute it at one input. -/
def hitsLongestWrong : ChangeSpec := { name := "hitsLongest", fn := fun _ => fun
  | [d1, d2] => { results := [.lit (.bool false)], args := [d1, d2] }
  | _ => none }
def HitsLongestWrongFalsely : Prop := hitsLongestRow.holds Try.pinned (OpenSpec.ofChange hitsLongestWrong)

/-- 'lexiphanelaw11.HitsOrder': WHATEVER THE INPUT: true; the input reads as it did. -/
def hitsOrderSpec : ChangeSpec := { name := "hitsOrder", fn := fun _ => fun
  | [d1, d2, d3] => { results := [.lit (.bool true)], args := [d1, d2, d3] }
  | _ => none }
def hitsOrderRow : OpenClaim := { program := "ytfeibhdnmfiflaa", sum := "22b6ed744ca187d042406c22c604ab69cad9c4589f47c2cd0079076bc036e922", func := "lexiphane/lexiphanelaw11.HitsOrder", spec := "hitsOrder", inPlace := ["slices.overlaps[byte]", "slices.overlaps[int]"], unfollowed := true, recurses := true, plainKeys := false, apart := false }
def HitsOrderSaid : Prop := hitsOrderRow.holds Try.pinned (OpenSpec.ofChange hitsOrderSpec)

/-- ITS FALSE NEIGHBOUR: 'it returns false'. Refute it at one input. -/
def hitsOrderWrong : ChangeSpec := { name := "hitsOrder", fn := fun _ => fun
  | [d1, d2, d3] => { results := [.lit (.bool false)], args := [d1, d2, d3] }
  | _ => none }
def HitsOrderWrongFalsely : Prop := hitsOrderRow.holds Try.pinned (OpenSpec.ofChange hitsOrderWrong)

/-- 'lexiphanelaw11.HitsNone': WHATEVER THE INPUT: true; the input reads as it did. -/
def hitsNoneSpec : ChangeSpec := { name := "hitsNone", fn := fun _ => fun
  | [d1, d2, d3] => { results := [.lit (.bool true)], args := [d1, d2, d3] }
  | _ => none }
def hitsNoneRow : OpenClaim := { program := "ytfeibhdnmfiflaa", sum := "22b6ed744ca187d042406c22c604ab69cad9c4589f47c2cd0079076bc036e922", func := "lexiphane/lexiphanelaw11.HitsNone", spec := "hitsNone", inPlace := ["slices.overlaps[byte]", "slices.overlaps[int]"], unfollowed := true, recurses := true, plainKeys := false, apart := false }
def HitsNoneSaid : Prop := hitsNoneRow.holds Try.pinned (OpenSpec.ofChange hitsNoneSpec)

/-- ITS FALSE NEIGHBOUR: 'it returns false'. Refute it at one input. -/
def hitsNoneWrong : ChangeSpec := { name := "hitsNone", fn := fun _ => fun
  | [d1, d2, d3] => { results := [.lit (.bool false)], args := [d1, d2, d3] }
  | _ => none }
def HitsNoneWrongFalsely : Prop := hitsNoneRow.holds Try.pinned (OpenSpec.ofChange hitsNoneWrong)

/- THE SECOND FORM. 'bulk': how many values and letters a reading holds, each counted each time it is reached (what is shared counts as often as it is met; a slice's spare places count too). A statement '..UptoSaid' is the law's where the arguments, and the package variables that the reading takes, are together of bulk at most 1048576: NARROWER than '..Said'. Prove '..Said' where nothing that the law and all that it calls make is longer than what came in: it says more and counts as full. Else prove '..UptoSaid'. A law counts once. -/
mutual
def uptoBulk {H : Type} : DataW H → Nat
  | .lit (.string bytes) => bytes.length + 1
  | .lit _ => 1
  | .nil => 1
  | .ptr d => uptoBulk d + 1
  | .slice elems spare => uptoBulkAll elems + uptoBulkAll spare + 1
  | .agg parts => uptoBulkAll parts + 1
  | .iface _ d => uptoBulk d + 1
  | .map entries => uptoBulkEntries entries + 1
  | .held _ => 1
def uptoBulkAll {H : Type} : List (DataW H) → Nat
  | [] => 0
  | d :: r => uptoBulk d + uptoBulkAll r
def uptoBulkEntries {H : Type} : List (Lit × DataW H) → Nat
  | [] => 0
  | x :: r => uptoBulkEntry x + uptoBulkEntries r
def uptoBulkEntry {H : Type} : Lit × DataW H → Nat
  | (.string bytes, d) => bytes.length + uptoBulk d + 1
  | (_, d) => uptoBulk d + 1
 end
def uptoSmall : (H : Type) → List (DataW H) → Bool := fun _ ds => decide (uptoBulkAll ds ≤ 1048576)
def OpenSpec.upto (s : _root_.Go.ChangeSpec) : _root_.Go.OpenSpec := { _root_.Go.OpenSpec.ofChange s with cond := some uptoSmall }

/-- 'lexiphanelaw11.HitsAny', WHERE WHAT IT READS IS OF BULK AT MOST 1048576: true; the input reads as it did. -/
def hitsAnyUptoRow : OpenClaim := { program := "ytfeibhdnmfiflaa", sum := "22b6ed744ca187d042406c22c604ab69cad9c4589f47c2cd0079076bc036e922", func := "lexiphane/lexiphanelaw11.HitsAny", spec := "hitsAny", unfollowed := true, recurses := true, plainKeys := false, apart := false, narrowed := true }
def HitsAnyUptoSaid : Prop := hitsAnyUptoRow.holds Try.pinned (OpenSpec.upto hitsAnySpec)

/-- 'lexiphanelaw11.HitsLongest', WHERE WHAT IT READS IS OF BULK AT MOST 1048576: true; the input reads as it did. -/
def hitsLongestUptoRow : OpenClaim := { program := "ytfeibhdnmfiflaa", sum := "22b6ed744ca187d042406c22c604ab69cad9c4589f47c2cd0079076bc036e922", func := "lexiphane/lexiphanelaw11.HitsLongest", spec := "hitsLongest", inPlace := ["slices.overlaps[byte]", "slices.overlaps[int]"], unfollowed := true, recurses := true, plainKeys := false, apart := false, narrowed := true }
def HitsLongestUptoSaid : Prop := hitsLongestUptoRow.holds Try.pinned (OpenSpec.upto hitsLongestSpec)

/-- 'lexiphanelaw11.HitsOrder', WHERE WHAT IT READS IS OF BULK AT MOST 1048576: true; the input reads as it did. -/
def hitsOrderUptoRow : OpenClaim := { program := "ytfeibhdnmfiflaa", sum := "22b6ed744ca187d042406c22c604ab69cad9c4589f47c2cd0079076bc036e922", func := "lexiphane/lexiphanelaw11.HitsOrder", spec := "hitsOrder", inPlace := ["slices.overlaps[byte]", "slices.overlaps[int]"], unfollowed := true, recurses := true, plainKeys := false, apart := false, narrowed := true }
def HitsOrderUptoSaid : Prop := hitsOrderUptoRow.holds Try.pinned (OpenSpec.upto hitsOrderSpec)

/-- 'lexiphanelaw11.HitsNone', WHERE WHAT IT READS IS OF BULK AT MOST 1048576: true; the input reads as it did. -/
def hitsNoneUptoRow : OpenClaim := { program := "ytfeibhdnmfiflaa", sum := "22b6ed744ca187d042406c22c604ab69cad9c4589f47c2cd0079076bc036e922", func := "lexiphane/lexiphanelaw11.HitsNone", spec := "hitsNone", inPlace := ["slices.overlaps[byte]", "slices.overlaps[int]"], unfollowed := true, recurses := true, plainKeys := false, apart := false, narrowed := true }
def HitsNoneUptoSaid : Prop := hitsNoneUptoRow.holds Try.pinned (OpenSpec.upto hitsNoneSpec)

end Rows
end Go.Proofs.Ytfeibhdnmfiflaa
