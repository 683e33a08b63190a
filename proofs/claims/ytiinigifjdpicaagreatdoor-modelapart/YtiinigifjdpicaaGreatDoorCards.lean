/-
  DERIVED. GIVEN WITH THE SEED: THE CARDS: each row of YtiinigifjdpicaaGreatDoorRows.lean that lists a variable, with what it lists TIED to the program's text (the seventh form; the later family's looks); each row that meets fmt, with fmt's text TOLD by the authors' own Lean function (tested against real Go, not proved from fmt's source: count such statements apart). THE CARD IS WHAT COUNTS. Prove the row's statement (the work); the ties are given (YtiinigifjdpicaaGreatDoorTie.lean); close each card by the builder's one call (the guide's Derived/Test/ToyasCard.lean, 'card_holds'). Laid BY PROGRAM, IN A SANDBOX (cutbox-door.mjs). By AI agents, Wed Nov 11 2026. No macro, syntax, notation, axiom, sorry.
-/
import Derived.Test.YtiinigifjdpicaaGreatDoorRows
import GoSem.ClaimSeven
namespace Go.Proofs.YtiinigifjdpicaaGreatDoor
namespace Rows

/-- THE TIED CARD OF 'rialtolaw22.ModelRejects'. -/
def modelRejectsCard : Claim7 := { stood := { row := modelRejectsRow, standIns := [], harness := (true, "908d1cfa8ac7678f7c1bc9932e3671d512b929029f787d6421dcd7dd2b885836"), looks := false }, kinds := [], alts := [], laidByText := true, laidKinds := [.data], laidTests := true, laidLooks := .later }
def ModelRejectsCardSaid : Prop := Claim7.holds Tryz.pinned (.plain (OpenSpec.ofChange modelRejectsSpec)) modelRejectsCard

/-- THE TIED CARD OF 'rialtolaw22.ModelBack'. -/
def modelBackCard : Claim7 := { stood := { row := modelBackRow, standIns := [], harness := (true, "908d1cfa8ac7678f7c1bc9932e3671d512b929029f787d6421dcd7dd2b885836"), looks := false }, kinds := [], alts := [], laidByText := true, laidKinds := [.data], laidTests := true, laidLooks := .later }
def ModelBackCardSaid : Prop := Claim7.holds Tryz.pinned (.plain (OpenSpec.ofChange modelBackSpec)) modelBackCard

/-- THE TIED CARD OF 'rialtolaw22.ModelUndo'. -/
def modelUndoCard : Claim7 := { stood := { row := modelUndoRow, standIns := [], harness := (true, "908d1cfa8ac7678f7c1bc9932e3671d512b929029f787d6421dcd7dd2b885836"), looks := false }, kinds := [], alts := [], laidByText := true, laidKinds := [.data], laidTests := true, laidLooks := .later }
def ModelUndoCardSaid : Prop := Claim7.holds Tryz.pinned (.plain (OpenSpec.ofChange modelUndoSpec)) modelUndoCard

/-- THE TIED CARD OF 'rialtolaw22.ModelApart'. -/
def modelApartCard : Claim7 := { stood := { row := modelApartRow, standIns := [], harness := (true, "908d1cfa8ac7678f7c1bc9932e3671d512b929029f787d6421dcd7dd2b885836"), looks := false }, kinds := [], alts := [], laidByText := true, laidKinds := [.data], laidTests := true, laidLooks := .later }
def ModelApartCardSaid : Prop := Claim7.holds Tryz.pinned (.plain (OpenSpec.ofChange modelApartSpec)) modelApartCard

/-- THE TIED CARD OF 'rialtolaw22.ModelTotals'. -/
def modelTotalsCard : Claim7 := { stood := { row := modelTotalsRow, standIns := [], harness := (true, "908d1cfa8ac7678f7c1bc9932e3671d512b929029f787d6421dcd7dd2b885836"), looks := false }, kinds := [], alts := [], laidByText := true, laidKinds := [.data], laidTests := true, laidLooks := .later }
def ModelTotalsCardSaid : Prop := Claim7.holds Tryz.pinned (.plain (OpenSpec.ofChange modelTotalsSpec)) modelTotalsCard

/-- THE TIED CARD OF 'rialtolaw22.ModelNets'. -/
def modelNetsCard : Claim7 := { stood := { row := modelNetsRow, standIns := [], harness := (true, "908d1cfa8ac7678f7c1bc9932e3671d512b929029f787d6421dcd7dd2b885836"), looks := false }, kinds := [], alts := [], laidByText := true, laidKinds := [.data], laidTests := true, laidLooks := .later }
def ModelNetsCardSaid : Prop := Claim7.holds Tryz.pinned (.plain (OpenSpec.ofChange modelNetsSpec)) modelNetsCard

/-- THE SECOND FORM's CARD OF 'rialtolaw22.ModelRejects'. -/
def modelRejectsUptoCard : Claim7 := { stood := { row := modelRejectsUptoRow, standIns := [], harness := (true, "908d1cfa8ac7678f7c1bc9932e3671d512b929029f787d6421dcd7dd2b885836"), looks := false }, kinds := [], alts := [], laidByText := true, laidKinds := [.data], laidTests := true, laidLooks := .later }
def ModelRejectsUptoCardSaid : Prop := Claim7.holds Tryz.pinned (.plain (OpenSpec.upto modelRejectsSpec)) modelRejectsUptoCard

/-- THE SECOND FORM's CARD OF 'rialtolaw22.ModelBack'. -/
def modelBackUptoCard : Claim7 := { stood := { row := modelBackUptoRow, standIns := [], harness := (true, "908d1cfa8ac7678f7c1bc9932e3671d512b929029f787d6421dcd7dd2b885836"), looks := false }, kinds := [], alts := [], laidByText := true, laidKinds := [.data], laidTests := true, laidLooks := .later }
def ModelBackUptoCardSaid : Prop := Claim7.holds Tryz.pinned (.plain (OpenSpec.upto modelBackSpec)) modelBackUptoCard

/-- THE SECOND FORM's CARD OF 'rialtolaw22.ModelUndo'. -/
def modelUndoUptoCard : Claim7 := { stood := { row := modelUndoUptoRow, standIns := [], harness := (true, "908d1cfa8ac7678f7c1bc9932e3671d512b929029f787d6421dcd7dd2b885836"), looks := false }, kinds := [], alts := [], laidByText := true, laidKinds := [.data], laidTests := true, laidLooks := .later }
def ModelUndoUptoCardSaid : Prop := Claim7.holds Tryz.pinned (.plain (OpenSpec.upto modelUndoSpec)) modelUndoUptoCard

/-- THE SECOND FORM's CARD OF 'rialtolaw22.ModelApart'. -/
def modelApartUptoCard : Claim7 := { stood := { row := modelApartUptoRow, standIns := [], harness := (true, "908d1cfa8ac7678f7c1bc9932e3671d512b929029f787d6421dcd7dd2b885836"), looks := false }, kinds := [], alts := [], laidByText := true, laidKinds := [.data], laidTests := true, laidLooks := .later }
def ModelApartUptoCardSaid : Prop := Claim7.holds Tryz.pinned (.plain (OpenSpec.upto modelApartSpec)) modelApartUptoCard

/-- THE SECOND FORM's CARD OF 'rialtolaw22.ModelTotals'. -/
def modelTotalsUptoCard : Claim7 := { stood := { row := modelTotalsUptoRow, standIns := [], harness := (true, "908d1cfa8ac7678f7c1bc9932e3671d512b929029f787d6421dcd7dd2b885836"), looks := false }, kinds := [], alts := [], laidByText := true, laidKinds := [.data], laidTests := true, laidLooks := .later }
def ModelTotalsUptoCardSaid : Prop := Claim7.holds Tryz.pinned (.plain (OpenSpec.upto modelTotalsSpec)) modelTotalsUptoCard

/-- THE SECOND FORM's CARD OF 'rialtolaw22.ModelNets'. -/
def modelNetsUptoCard : Claim7 := { stood := { row := modelNetsUptoRow, standIns := [], harness := (true, "908d1cfa8ac7678f7c1bc9932e3671d512b929029f787d6421dcd7dd2b885836"), looks := false }, kinds := [], alts := [], laidByText := true, laidKinds := [.data], laidTests := true, laidLooks := .later }
def ModelNetsUptoCardSaid : Prop := Claim7.holds Tryz.pinned (.plain (OpenSpec.upto modelNetsSpec)) modelNetsUptoCard
end Rows
end Go.Proofs.YtiinigifjdpicaaGreatDoor
