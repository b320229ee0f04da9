/-
  No cell of these rows narrows 'for every input' (looked for: loops, veiled, ifaces, maps, wideKeys, modest, calm, conditions, laid).
  DERIVED. THE GIVEN ROWS OF THIS SEAT. 4 by the template 'for every input the law returns true; each argument reads behind the call as it read before'; 0 by the template 'total and deterministic' (their statements: YtbaebdnhipkonaaTotals.lean).
  GIVEN WITH THE SEED: the statements are not yours to turn. If you find one false, say at which input.
  Laid BY PROGRAM, IN A SANDBOX (cutbox-rows.mjs): the forced cells as the released guide's own fill.sh prints them over the translation 275a4e7ee7fd0383… (all of the seat's roots in one cut). By AI agents, Wed Nov 11 2026. No macro, syntax, notation, axiom, sorry.
-/
import Derived.Test.YtbaebdnhipkonaaChecked
import GoSem.Claim
import GoSem.ClaimJoined
import GoSem.ClaimMapViews
import Derived.JoinedTies
import Derived.KernelRfl
namespace Go.Proofs.Ytbaebdnhipkonaa
/- THE CELL 'sum', in the pinned program and in every row, IS THE sha256 OF THE DUMP (.gsa) THAT YtbaebdnhipkonaaProg.lean LOADS. Nothing in Lean hashes anything: it is a label: what it is worth is what the hold of that sum in a sandbox is worth. -/
noncomputable def Try.pinned : Pinned := { name := "ytbaebdnhipkonaa", sum := "275a4e7ee7fd038344a9f28f225b1625263043b5307b579d582eb47c59537d8a", checked := Try.checked }
namespace Rows
def none {H : Type} : Left H := { results := [], args := [] }

/-- 'lexiphanelaw8.LinksTells': WHATEVER THE INPUT: true; the input reads as it did. -/
def linksTellsSpec : ChangeSpec := { name := "linksTells", fn := fun _ => fun
  | [d1, d2] => { results := [.lit (.bool true)], args := [d1, d2] }
  | _ => none }
def linksTellsRow : OpenClaim := { program := "ytbaebdnhipkonaa", sum := "275a4e7ee7fd038344a9f28f225b1625263043b5307b579d582eb47c59537d8a", func := "lexiphane/lexiphanelaw8.LinksTells", spec := "linksTells", inPlace := ["slices.overlaps[byte]", "slices.overlaps[int]"], unfollowed := true, recurses := true, apart := false }
def LinksTellsSaid : Prop := linksTellsRow.holds Try.pinned (OpenSpec.ofChange linksTellsSpec)

/-- ITS FALSE NEIGHBOUR: 'it returns false'. Refute it at one input. -/
def linksTellsWrong : ChangeSpec := { name := "linksTells", fn := fun _ => fun
  | [d1, d2] => { results := [.lit (.bool false)], args := [d1, d2] }
  | _ => none }
def LinksTellsWrongFalsely : Prop := linksTellsRow.holds Try.pinned (OpenSpec.ofChange linksTellsWrong)

/-- 'lexiphanelaw8.LinksEnds': WHATEVER THE INPUT: true; the input reads as it did. -/
def linksEndsSpec : ChangeSpec := { name := "linksEnds", fn := fun _ => fun
  | [d] => { results := [.lit (.bool true)], args := [d] }
  | _ => none }
def linksEndsRow : OpenClaim := { program := "ytbaebdnhipkonaa", sum := "275a4e7ee7fd038344a9f28f225b1625263043b5307b579d582eb47c59537d8a", func := "lexiphane/lexiphanelaw8.LinksEnds", spec := "linksEnds", inPlace := ["slices.overlaps[byte]", "slices.overlaps[int]"], unfollowed := true, recurses := true, apart := false }
def LinksEndsSaid : Prop := linksEndsRow.holds Try.pinned (OpenSpec.ofChange linksEndsSpec)

/-- ITS FALSE NEIGHBOUR: 'it returns false'. Refute it at one input. -/
def linksEndsWrong : ChangeSpec := { name := "linksEnds", fn := fun _ => fun
  | [d] => { results := [.lit (.bool false)], args := [d] }
  | _ => none }
def LinksEndsWrongFalsely : Prop := linksEndsRow.holds Try.pinned (OpenSpec.ofChange linksEndsWrong)

/-- 'lexiphanelaw8.LinksOrder': WHATEVER THE INPUT: true; the input reads as it did. -/
def linksOrderSpec : ChangeSpec := { name := "linksOrder", fn := fun _ => fun
  | [d] => { results := [.lit (.bool true)], args := [d] }
  | _ => none }
def linksOrderRow : OpenClaim := { program := "ytbaebdnhipkonaa", sum := "275a4e7ee7fd038344a9f28f225b1625263043b5307b579d582eb47c59537d8a", func := "lexiphane/lexiphanelaw8.LinksOrder", spec := "linksOrder", inPlace := ["slices.overlaps[byte]", "slices.overlaps[int]"], unfollowed := true, recurses := true, apart := false }
def LinksOrderSaid : Prop := linksOrderRow.holds Try.pinned (OpenSpec.ofChange linksOrderSpec)

/-- ITS FALSE NEIGHBOUR: 'it returns false'. Refute it at one input. -/
def linksOrderWrong : ChangeSpec := { name := "linksOrder", fn := fun _ => fun
  | [d] => { results := [.lit (.bool false)], args := [d] }
  | _ => none }
def LinksOrderWrongFalsely : Prop := linksOrderRow.holds Try.pinned (OpenSpec.ofChange linksOrderWrong)

/-- 'lexiphanelaw8.LinksOuts': WHATEVER THE INPUT: true; the input reads as it did. -/
def linksOutsSpec : ChangeSpec := { name := "linksOuts", fn := fun _ => fun
  | [d] => { results := [.lit (.bool true)], args := [d] }
  | _ => none }
def linksOutsRow : OpenClaim := { program := "ytbaebdnhipkonaa", sum := "275a4e7ee7fd038344a9f28f225b1625263043b5307b579d582eb47c59537d8a", func := "lexiphane/lexiphanelaw8.LinksOuts", spec := "linksOuts", inPlace := ["slices.overlaps[byte]", "slices.overlaps[int]"], unfollowed := true, recurses := true, apart := false }
def LinksOutsSaid : Prop := linksOutsRow.holds Try.pinned (OpenSpec.ofChange linksOutsSpec)

/-- ITS FALSE NEIGHBOUR: 'it returns false'. Refute it at one input. -/
def linksOutsWrong : ChangeSpec := { name := "linksOuts", fn := fun _ => fun
  | [d] => { results := [.lit (.bool false)], args := [d] }
  | _ => none }
def LinksOutsWrongFalsely : Prop := linksOutsRow.holds Try.pinned (OpenSpec.ofChange linksOutsWrong)

/- THE SECOND FORM. 'bulk': how many values and letters a reading holds, each counted each time it is reached (what is shared counts as often as it is met; a slice's spare places count too). A statement '..UptoSaid' is the law's where the arguments, and the package variables that the reading takes, are together of bulk at most 1048576: NARROWER than '..Said'. Prove '..Said' where nothing that the law and all that it calls make is longer than what came in: it says more and counts as full. Else prove '..UptoSaid'. A law counts once. -/
mutual
def uptoBulk {H : Type} : DataW H → Nat
  | .lit (.string bytes) => bytes.length + 1
  | .lit _ => 1
  | .nil => 1
  | .ptr d => uptoBulk d + 1
  | .slice elems spare => uptoBulkAll elems + uptoBulkAll spare + 1
  | .agg parts => uptoBulkAll parts + 1
  | .iface _ d => uptoBulk d + 1
  | .map entries => uptoBulkEntries entries + 1
  | .held _ => 1
def uptoBulkAll {H : Type} : List (DataW H) → Nat
  | [] => 0
  | d :: r => uptoBulk d + uptoBulkAll r
def uptoBulkEntries {H : Type} : List (Lit × DataW H) → Nat
  | [] => 0
  | x :: r => uptoBulkEntry x + uptoBulkEntries r
def uptoBulkEntry {H : Type} : Lit × DataW H → Nat
  | (.string bytes, d) => bytes.length + uptoBulk d + 1
  | (_, d) => uptoBulk d + 1
 end
def uptoSmall : (H : Type) → List (DataW H) → Bool := fun _ ds => decide (uptoBulkAll ds ≤ 1048576)
def OpenSpec.upto (s : _root_.Go.ChangeSpec) : _root_.Go.OpenSpec := { _root_.Go.OpenSpec.ofChange s with cond := some uptoSmall }

/-- 'lexiphanelaw8.LinksTells', WHERE WHAT IT READS IS OF BULK AT MOST 1048576: true; the input reads as it did. -/
def linksTellsUptoRow : OpenClaim := { program := "ytbaebdnhipkonaa", sum := "275a4e7ee7fd038344a9f28f225b1625263043b5307b579d582eb47c59537d8a", func := "lexiphane/lexiphanelaw8.LinksTells", spec := "linksTells", inPlace := ["slices.overlaps[byte]", "slices.overlaps[int]"], unfollowed := true, recurses := true, apart := false, narrowed := true }
def LinksTellsUptoSaid : Prop := linksTellsUptoRow.holds Try.pinned (OpenSpec.upto linksTellsSpec)

/-- 'lexiphanelaw8.LinksEnds', WHERE WHAT IT READS IS OF BULK AT MOST 1048576: true; the input reads as it did. -/
def linksEndsUptoRow : OpenClaim := { program := "ytbaebdnhipkonaa", sum := "275a4e7ee7fd038344a9f28f225b1625263043b5307b579d582eb47c59537d8a", func := "lexiphane/lexiphanelaw8.LinksEnds", spec := "linksEnds", inPlace := ["slices.overlaps[byte]", "slices.overlaps[int]"], unfollowed := true, recurses := true, apart := false, narrowed := true }
def LinksEndsUptoSaid : Prop := linksEndsUptoRow.holds Try.pinned (OpenSpec.upto linksEndsSpec)

/-- 'lexiphanelaw8.LinksOrder', WHERE WHAT IT READS IS OF BULK AT MOST 1048576: true; the input reads as it did. -/
def linksOrderUptoRow : OpenClaim := { program := "ytbaebdnhipkonaa", sum := "275a4e7ee7fd038344a9f28f225b1625263043b5307b579d582eb47c59537d8a", func := "lexiphane/lexiphanelaw8.LinksOrder", spec := "linksOrder", inPlace := ["slices.overlaps[byte]", "slices.overlaps[int]"], unfollowed := true, recurses := true, apart := false, narrowed := true }
def LinksOrderUptoSaid : Prop := linksOrderUptoRow.holds Try.pinned (OpenSpec.upto linksOrderSpec)

/-- 'lexiphanelaw8.LinksOuts', WHERE WHAT IT READS IS OF BULK AT MOST 1048576: true; the input reads as it did. -/
def linksOutsUptoRow : OpenClaim := { program := "ytbaebdnhipkonaa", sum := "275a4e7ee7fd038344a9f28f225b1625263043b5307b579d582eb47c59537d8a", func := "lexiphane/lexiphanelaw8.LinksOuts", spec := "linksOuts", inPlace := ["slices.overlaps[byte]", "slices.overlaps[int]"], unfollowed := true, recurses := true, apart := false, narrowed := true }
def LinksOutsUptoSaid : Prop := linksOutsUptoRow.holds Try.pinned (OpenSpec.upto linksOutsSpec)

end Rows
end Go.Proofs.Ytbaebdnhipkonaa
