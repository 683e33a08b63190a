/-
  DERIVED. GIVEN WITH THE SEED: THE CARDS: each row of YtilinemcmgjiiaaDoorRows.lean that lists a variable, with what it lists TIED to the program's text (the seventh form; the later family's looks); each row that meets fmt, with fmt's text TOLD by the authors' own Lean function (tested against real Go, not proved from fmt's source: count such statements apart). THE CARD IS WHAT COUNTS. Prove the row's statement (the work); the ties are given (YtilinemcmgjiiaaDoorTie.lean); close each card by the builder's one call (the guide's Derived/Test/ToyasCard.lean, 'card_holds'). Laid BY PROGRAM, IN A SANDBOX (cutbox-door.mjs). By AI agents, Wed Nov 11 2026. No macro, syntax, notation, axiom, sorry.
-/
import Derived.Test.YtilinemcmgjiiaaDoorRows
import GoSem.ClaimSeven
namespace Go.Proofs.YtilinemcmgjiiaaDoor
namespace Rows

/-- THE TIED CARD OF 'rialtolaw19.CoordFirm'. -/
def coordFirmCard : Claim7 := { stood := { row := coordFirmRow, standIns := [], harness := (true, "7d6c95beb49eeb38d25d4e9e8468bdfe700c11bd4eb28bddc46f2d851c261893"), looks := false }, kinds := [], alts := [], laidByText := true, laidKinds := [.data], laidTests := true, laidLooks := .later }
def CoordFirmCardSaid : Prop := Claim7.holds Tryd.pinned (.plain (OpenSpec.ofChange coordFirmSpec)) coordFirmCard

/-- THE TIED CARD OF 'rialtolaw19.CoordMarks'. -/
def coordMarksCard : Claim7 := { stood := { row := coordMarksRow, standIns := [], harness := (true, "7d6c95beb49eeb38d25d4e9e8468bdfe700c11bd4eb28bddc46f2d851c261893"), looks := false }, kinds := [], alts := [], laidByText := true, laidKinds := [.data], laidTests := true, laidLooks := .later }
def CoordMarksCardSaid : Prop := Claim7.holds Tryd.pinned (.plain (OpenSpec.ofChange coordMarksSpec)) coordMarksCard

/-- THE TIED CARD OF 'rialtolaw19.CoordAll'. -/
def coordAllCard : Claim7 := { stood := { row := coordAllRow, standIns := [], harness := (true, "7d6c95beb49eeb38d25d4e9e8468bdfe700c11bd4eb28bddc46f2d851c261893"), looks := false }, kinds := [], alts := [], laidByText := true, laidKinds := [.data], laidTests := true, laidLooks := .later }
def CoordAllCardSaid : Prop := Claim7.holds Tryd.pinned (.plain (OpenSpec.ofChange coordAllSpec)) coordAllCard

/-- THE TIED CARD OF 'rialtolaw19.CoordAgain'. -/
def coordAgainCard : Claim7 := { stood := { row := coordAgainRow, standIns := [], harness := (true, "7d6c95beb49eeb38d25d4e9e8468bdfe700c11bd4eb28bddc46f2d851c261893"), looks := false }, kinds := [], alts := [], laidByText := true, laidKinds := [.data], laidTests := true, laidLooks := .later }
def CoordAgainCardSaid : Prop := Claim7.holds Tryd.pinned (.plain (OpenSpec.ofChange coordAgainSpec)) coordAgainCard

/-- THE SECOND FORM's CARD OF 'rialtolaw19.CoordFirm'. -/
def coordFirmUptoCard : Claim7 := { stood := { row := coordFirmUptoRow, standIns := [], harness := (true, "7d6c95beb49eeb38d25d4e9e8468bdfe700c11bd4eb28bddc46f2d851c261893"), looks := false }, kinds := [], alts := [], laidByText := true, laidKinds := [.data], laidTests := true, laidLooks := .later }
def CoordFirmUptoCardSaid : Prop := Claim7.holds Tryd.pinned (.plain (OpenSpec.upto coordFirmSpec)) coordFirmUptoCard

/-- THE SECOND FORM's CARD OF 'rialtolaw19.CoordMarks'. -/
def coordMarksUptoCard : Claim7 := { stood := { row := coordMarksUptoRow, standIns := [], harness := (true, "7d6c95beb49eeb38d25d4e9e8468bdfe700c11bd4eb28bddc46f2d851c261893"), looks := false }, kinds := [], alts := [], laidByText := true, laidKinds := [.data], laidTests := true, laidLooks := .later }
def CoordMarksUptoCardSaid : Prop := Claim7.holds Tryd.pinned (.plain (OpenSpec.upto coordMarksSpec)) coordMarksUptoCard

/-- THE SECOND FORM's CARD OF 'rialtolaw19.CoordAll'. -/
def coordAllUptoCard : Claim7 := { stood := { row := coordAllUptoRow, standIns := [], harness := (true, "7d6c95beb49eeb38d25d4e9e8468bdfe700c11bd4eb28bddc46f2d851c261893"), looks := false }, kinds := [], alts := [], laidByText := true, laidKinds := [.data], laidTests := true, laidLooks := .later }
def CoordAllUptoCardSaid : Prop := Claim7.holds Tryd.pinned (.plain (OpenSpec.upto coordAllSpec)) coordAllUptoCard

/-- THE SECOND FORM's CARD OF 'rialtolaw19.CoordAgain'. -/
def coordAgainUptoCard : Claim7 := { stood := { row := coordAgainUptoRow, standIns := [], harness := (true, "7d6c95beb49eeb38d25d4e9e8468bdfe700c11bd4eb28bddc46f2d851c261893"), looks := false }, kinds := [], alts := [], laidByText := true, laidKinds := [.data], laidTests := true, laidLooks := .later }
def CoordAgainUptoCardSaid : Prop := Claim7.holds Tryd.pinned (.plain (OpenSpec.upto coordAgainSpec)) coordAgainUptoCard
end Rows
end Go.Proofs.YtilinemcmgjiiaaDoor
