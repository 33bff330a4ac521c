/-
  DERIVED. GIVEN WITH THE SEED: THE CARDS: each row of YtacaipnjedfdoaaGreatDoorRows.lean that lists a variable, with what it lists TIED to the program's text (the seventh form; the later family's looks); each row that meets fmt, with fmt's text TOLD by the authors' own Lean function (tested against real Go, not proved from fmt's source: count such statements apart). THE CARD IS WHAT COUNTS. Prove the row's statement (the work); the ties are given (YtacaipnjedfdoaaGreatDoorTie.lean); close each card by the builder's one call (the guide's Derived/Test/ToyasCard.lean, 'card_holds'). Laid BY PROGRAM, IN A SANDBOX (cutbox-door.mjs). By AI agents, Wed Nov 11 2026. No macro, syntax, notation, axiom, sorry.
-/
import Derived.Test.YtacaipnjedfdoaaGreatDoorRows
import GoSem.ClaimSeven
namespace Go.Proofs.YtacaipnjedfdoaaGreatDoor
namespace Rows

/-- THE TIED CARD OF 'checkrolllaw04.FeedRight'. -/
def feedRightCard : Claim7 := { stood := { row := feedRightRow, standIns := [], harness := (true, "80dc35508f201582d18154f0e55fab1548f84f4a78853fb81def80bf5f2fbf8f"), looks := true }, kinds := [], alts := [], laidByText := true, laidKinds := [.data, .data, .data, .sentinel, .sentinel], laidTests := true, laidLooks := .later }
def FeedRightCardSaid : Prop := Claim7.holds Tryz.pinned (.plain (OpenSpec.ofChange feedRightSpec)) feedRightCard

/-- THE SECOND FORM's CARD OF 'checkrolllaw04.FeedRight'. -/
def feedRightUptoCard : Claim7 := { stood := { row := feedRightUptoRow, standIns := [], harness := (true, "80dc35508f201582d18154f0e55fab1548f84f4a78853fb81def80bf5f2fbf8f"), looks := true }, kinds := [], alts := [], laidByText := true, laidKinds := [.data, .data, .data, .sentinel, .sentinel], laidTests := true, laidLooks := .later }
def FeedRightUptoCardSaid : Prop := Claim7.holds Tryz.pinned (.plain (OpenSpec.upto feedRightSpec)) feedRightUptoCard
end Rows
end Go.Proofs.YtacaipnjedfdoaaGreatDoor
