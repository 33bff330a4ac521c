/-
  DERIVED. GIVEN WITH THE SEED: THE CARDS: each row of YtcfpchcbiknehaaDoorRRows.lean that lists a variable, with what it lists TIED to the program's text (the seventh form; the later family's looks); each row that meets fmt, with fmt's text TOLD by the authors' own Lean function (tested against real Go, not proved from fmt's source: count such statements apart). THE CARD IS WHAT COUNTS. Prove the row's statement (the work); the ties are given (YtcfpchcbiknehaaDoorRTie.lean); close each card by the builder's one call (the guide's Derived/Test/ToyasCard.lean, 'card_holds'). Laid BY PROGRAM, IN A SANDBOX (cutbox-door.mjs). By AI agents, Wed Nov 11 2026. No macro, syntax, notation, axiom, sorry.
-/
import Derived.Test.YtcfpchcbiknehaaDoorRRows
import GoSem.ClaimSeven
namespace Go.Proofs.YtcfpchcbiknehaaDoorR
namespace Rows

/-- THE TIED CARD OF 'checkrolllaw05.MsgRight'. -/
def msgRightCard : Claim7 := { stood := { row := msgRightRow, standIns := [], harness := (true, "e901ee37e09dc23c5e19a46563e1e1c132857c3326c30f0de93812f708871abf"), looks := true }, kinds := [], alts := [], laidByText := true, laidKinds := [.data, .data, .data, .sentinel, .sentinel], laidTests := true, laidLooks := .later }
def MsgRightCardSaid : Prop := Claim7.holds Tryd.pinned (.plain (OpenSpec.ofChange msgRightSpec)) msgRightCard

/-- THE TIED CARD OF 'checkrolllaw05.MsgBack'. -/
def msgBackCard : Claim7 := { stood := { row := msgBackRow, standIns := [], harness := (true, "e901ee37e09dc23c5e19a46563e1e1c132857c3326c30f0de93812f708871abf"), looks := true }, kinds := [], alts := [], laidByText := true, laidKinds := [.data, .data, .data, .sentinel, .sentinel], laidTests := true, laidLooks := .later }
def MsgBackCardSaid : Prop := Claim7.holds Tryd.pinned (.plain (OpenSpec.ofChange msgBackSpec)) msgBackCard

/-- THE TIED CARD OF 'checkrolllaw05.MsgApart'. -/
def msgApartCard : Claim7 := { stood := { row := msgApartRow, standIns := [], harness := (true, "e901ee37e09dc23c5e19a46563e1e1c132857c3326c30f0de93812f708871abf"), looks := true }, kinds := [], alts := [], laidByText := true, laidKinds := [.data, .data, .data, .sentinel, .sentinel], laidTests := true, laidLooks := .later }
def MsgApartCardSaid : Prop := Claim7.holds Tryd.pinned (.plain (OpenSpec.ofChange msgApartSpec)) msgApartCard

/-- THE SECOND FORM's CARD OF 'checkrolllaw05.MsgRight'. -/
def msgRightUptoCard : Claim7 := { stood := { row := msgRightUptoRow, standIns := [], harness := (true, "e901ee37e09dc23c5e19a46563e1e1c132857c3326c30f0de93812f708871abf"), looks := true }, kinds := [], alts := [], laidByText := true, laidKinds := [.data, .data, .data, .sentinel, .sentinel], laidTests := true, laidLooks := .later }
def MsgRightUptoCardSaid : Prop := Claim7.holds Tryd.pinned (.plain (OpenSpec.upto msgRightSpec)) msgRightUptoCard

/-- THE SECOND FORM's CARD OF 'checkrolllaw05.MsgBack'. -/
def msgBackUptoCard : Claim7 := { stood := { row := msgBackUptoRow, standIns := [], harness := (true, "e901ee37e09dc23c5e19a46563e1e1c132857c3326c30f0de93812f708871abf"), looks := true }, kinds := [], alts := [], laidByText := true, laidKinds := [.data, .data, .data, .sentinel, .sentinel], laidTests := true, laidLooks := .later }
def MsgBackUptoCardSaid : Prop := Claim7.holds Tryd.pinned (.plain (OpenSpec.upto msgBackSpec)) msgBackUptoCard

/-- THE SECOND FORM's CARD OF 'checkrolllaw05.MsgApart'. -/
def msgApartUptoCard : Claim7 := { stood := { row := msgApartUptoRow, standIns := [], harness := (true, "e901ee37e09dc23c5e19a46563e1e1c132857c3326c30f0de93812f708871abf"), looks := true }, kinds := [], alts := [], laidByText := true, laidKinds := [.data, .data, .data, .sentinel, .sentinel], laidTests := true, laidLooks := .later }
def MsgApartUptoCardSaid : Prop := Claim7.holds Tryd.pinned (.plain (OpenSpec.upto msgApartSpec)) msgApartUptoCard
end Rows
end Go.Proofs.YtcfpchcbiknehaaDoorR
