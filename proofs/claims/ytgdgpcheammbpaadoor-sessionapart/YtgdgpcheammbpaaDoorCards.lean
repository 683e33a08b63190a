/-
  DERIVED. GIVEN WITH THE SEED: THE CARDS: each row of YtgdgpcheammbpaaDoorRows.lean that lists a variable, with what it lists TIED to the program's text (the seventh form; the later family's looks); each row that meets fmt, with fmt's text TOLD by the authors' own Lean function (tested against real Go, not proved from fmt's source: count such statements apart). THE CARD IS WHAT COUNTS. Prove the row's statement (the work); the ties are given (YtgdgpcheammbpaaDoorTie.lean); close each card by the builder's one call (the guide's Derived/Test/ToyasCard.lean, 'card_holds'). Laid BY PROGRAM, IN A SANDBOX (cutbox-door.mjs). By AI agents, Wed Nov 11 2026. No macro, syntax, notation, axiom, sorry.
-/
import Derived.Test.YtgdgpcheammbpaaDoorRows
import GoSem.ClaimSeven
namespace Go.Proofs.YtgdgpcheammbpaaDoor
namespace Rows

/-- THE TIED CARD OF 'rialtolaw17.SessionKeys'. -/
def sessionKeysCard : Claim7 := { stood := { row := sessionKeysRow, standIns := [], harness := (true, "1116a6ec26659699c1d20e98f6166db927aec1ccf8b20be6914527f92bbd5e5d"), looks := false }, kinds := [], alts := [], laidByText := true, laidKinds := [.data], laidTests := true, laidLooks := .later }
def SessionKeysCardSaid : Prop := Claim7.holds Tryd.pinned (.plain (OpenSpec.ofChange sessionKeysSpec)) sessionKeysCard

/-- THE TIED CARD OF 'rialtolaw17.SessionFits'. -/
def sessionFitsCard : Claim7 := { stood := { row := sessionFitsRow, standIns := [], harness := (true, "1116a6ec26659699c1d20e98f6166db927aec1ccf8b20be6914527f92bbd5e5d"), looks := false }, kinds := [], alts := [], laidByText := true, laidKinds := [.data], laidTests := true, laidLooks := .later }
def SessionFitsCardSaid : Prop := Claim7.holds Tryd.pinned (.plain (OpenSpec.ofChange sessionFitsSpec)) sessionFitsCard

/-- THE TIED CARD OF 'rialtolaw17.SessionOnce'. -/
def sessionOnceCard : Claim7 := { stood := { row := sessionOnceRow, standIns := [], harness := (true, "1116a6ec26659699c1d20e98f6166db927aec1ccf8b20be6914527f92bbd5e5d"), looks := false }, kinds := [], alts := [], laidByText := true, laidKinds := [.data], laidTests := true, laidLooks := .later }
def SessionOnceCardSaid : Prop := Claim7.holds Tryd.pinned (.plain (OpenSpec.ofChange sessionOnceSpec)) sessionOnceCard

/-- THE TIED CARD OF 'rialtolaw17.SessionApart'. -/
def sessionApartCard : Claim7 := { stood := { row := sessionApartRow, standIns := [], harness := (true, "1116a6ec26659699c1d20e98f6166db927aec1ccf8b20be6914527f92bbd5e5d"), looks := false }, kinds := [], alts := [], laidByText := true, laidKinds := [.data], laidTests := true, laidLooks := .later }
def SessionApartCardSaid : Prop := Claim7.holds Tryd.pinned (.plain (OpenSpec.ofChange sessionApartSpec)) sessionApartCard

/-- THE TIED CARD OF 'rialtolaw17.SessionBegins'. -/
def sessionBeginsCard : Claim7 := { stood := { row := sessionBeginsRow, standIns := [], harness := (true, "1116a6ec26659699c1d20e98f6166db927aec1ccf8b20be6914527f92bbd5e5d"), looks := false }, kinds := [], alts := [], laidByText := true, laidKinds := [.data], laidTests := true, laidLooks := .later }
def SessionBeginsCardSaid : Prop := Claim7.holds Tryd.pinned (.plain (OpenSpec.ofChange sessionBeginsSpec)) sessionBeginsCard

/-- THE TIED CARD OF 'rialtolaw17.SessionEnds'. -/
def sessionEndsCard : Claim7 := { stood := { row := sessionEndsRow, standIns := [], harness := (true, "1116a6ec26659699c1d20e98f6166db927aec1ccf8b20be6914527f92bbd5e5d"), looks := false }, kinds := [], alts := [], laidByText := true, laidKinds := [.data], laidTests := true, laidLooks := .later }
def SessionEndsCardSaid : Prop := Claim7.holds Tryd.pinned (.plain (OpenSpec.ofChange sessionEndsSpec)) sessionEndsCard

/-- THE SECOND FORM's CARD OF 'rialtolaw17.SessionKeys'. -/
def sessionKeysUptoCard : Claim7 := { stood := { row := sessionKeysUptoRow, standIns := [], harness := (true, "1116a6ec26659699c1d20e98f6166db927aec1ccf8b20be6914527f92bbd5e5d"), looks := false }, kinds := [], alts := [], laidByText := true, laidKinds := [.data], laidTests := true, laidLooks := .later }
def SessionKeysUptoCardSaid : Prop := Claim7.holds Tryd.pinned (.plain (OpenSpec.upto sessionKeysSpec)) sessionKeysUptoCard

/-- THE SECOND FORM's CARD OF 'rialtolaw17.SessionFits'. -/
def sessionFitsUptoCard : Claim7 := { stood := { row := sessionFitsUptoRow, standIns := [], harness := (true, "1116a6ec26659699c1d20e98f6166db927aec1ccf8b20be6914527f92bbd5e5d"), looks := false }, kinds := [], alts := [], laidByText := true, laidKinds := [.data], laidTests := true, laidLooks := .later }
def SessionFitsUptoCardSaid : Prop := Claim7.holds Tryd.pinned (.plain (OpenSpec.upto sessionFitsSpec)) sessionFitsUptoCard

/-- THE SECOND FORM's CARD OF 'rialtolaw17.SessionOnce'. -/
def sessionOnceUptoCard : Claim7 := { stood := { row := sessionOnceUptoRow, standIns := [], harness := (true, "1116a6ec26659699c1d20e98f6166db927aec1ccf8b20be6914527f92bbd5e5d"), looks := false }, kinds := [], alts := [], laidByText := true, laidKinds := [.data], laidTests := true, laidLooks := .later }
def SessionOnceUptoCardSaid : Prop := Claim7.holds Tryd.pinned (.plain (OpenSpec.upto sessionOnceSpec)) sessionOnceUptoCard

/-- THE SECOND FORM's CARD OF 'rialtolaw17.SessionApart'. -/
def sessionApartUptoCard : Claim7 := { stood := { row := sessionApartUptoRow, standIns := [], harness := (true, "1116a6ec26659699c1d20e98f6166db927aec1ccf8b20be6914527f92bbd5e5d"), looks := false }, kinds := [], alts := [], laidByText := true, laidKinds := [.data], laidTests := true, laidLooks := .later }
def SessionApartUptoCardSaid : Prop := Claim7.holds Tryd.pinned (.plain (OpenSpec.upto sessionApartSpec)) sessionApartUptoCard

/-- THE SECOND FORM's CARD OF 'rialtolaw17.SessionBegins'. -/
def sessionBeginsUptoCard : Claim7 := { stood := { row := sessionBeginsUptoRow, standIns := [], harness := (true, "1116a6ec26659699c1d20e98f6166db927aec1ccf8b20be6914527f92bbd5e5d"), looks := false }, kinds := [], alts := [], laidByText := true, laidKinds := [.data], laidTests := true, laidLooks := .later }
def SessionBeginsUptoCardSaid : Prop := Claim7.holds Tryd.pinned (.plain (OpenSpec.upto sessionBeginsSpec)) sessionBeginsUptoCard

/-- THE SECOND FORM's CARD OF 'rialtolaw17.SessionEnds'. -/
def sessionEndsUptoCard : Claim7 := { stood := { row := sessionEndsUptoRow, standIns := [], harness := (true, "1116a6ec26659699c1d20e98f6166db927aec1ccf8b20be6914527f92bbd5e5d"), looks := false }, kinds := [], alts := [], laidByText := true, laidKinds := [.data], laidTests := true, laidLooks := .later }
def SessionEndsUptoCardSaid : Prop := Claim7.holds Tryd.pinned (.plain (OpenSpec.upto sessionEndsSpec)) sessionEndsUptoCard
end Rows
end Go.Proofs.YtgdgpcheammbpaaDoor
