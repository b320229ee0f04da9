/-
  DERIVED. GIVEN WITH THE SEED: THE CARDS: each row of YtfalihhbcpjmgaaFmtRows.lean that lists a variable, with what it lists TIED to the program's text (the seventh form; the later family's looks); each row that meets fmt, with fmt's text TOLD by the authors' own Lean function (tested against real Go, not proved from fmt's source: count such statements apart). THE CARD IS WHAT COUNTS. Prove the row's statement (the work); the ties are given (YtfalihhbcpjmgaaFmtTie.lean); close each card by the builder's one call (the guide's Derived/Test/ToyasCard.lean, 'card_holds'). Laid BY PROGRAM, IN A SANDBOX (cutbox-door.mjs). By AI agents, Wed Nov 11 2026. No macro, syntax, notation, axiom, sorry.
-/
import Derived.Test.YtfalihhbcpjmgaaFmtRows
import GoSem.ClaimSeven
namespace Go.Proofs.YtfalihhbcpjmgaaFmt
namespace Rows

/-- THE TOLD CARD OF 'lexiphanelaw1.FaultOthers'. -/
def faultOthersCard : Claim7 := { stood := { row := faultOthersRow, standIns := [], harness := (true, "7b5c61445965fdd6079d2cc9a984efd220e1806c66ffa8ddaf754fd9da2a0b52"), looks := true }, told := true, goes := false }
def FaultOthersToldSaid : Prop := Claim7.holds Tryf.pinned (.plain (OpenSpec.ofChange faultOthersSpec)) faultOthersCard
/-- ITS FALSE NEIGHBOUR. Refute it at one input. -/
def FaultOthersToldWrongFalsely : Prop := Claim7.holds Tryf.pinned (.plain (OpenSpec.ofChange faultOthersWrong)) faultOthersCard
end Rows
end Go.Proofs.YtfalihhbcpjmgaaFmt
