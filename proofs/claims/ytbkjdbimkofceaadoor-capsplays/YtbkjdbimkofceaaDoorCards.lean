/-
  DERIVED. GIVEN WITH THE SEED: THE CARDS: each row of YtbkjdbimkofceaaDoorRows.lean that lists a variable, with what it lists TIED to the program's text (the seventh form; the later family's looks); each row that meets fmt, with fmt's text TOLD by the authors' own Lean function (tested against real Go, not proved from fmt's source: count such statements apart). THE CARD IS WHAT COUNTS. Prove the row's statement (the work); the ties are given (YtbkjdbimkofceaaDoorTie.lean); close each card by the builder's one call (the guide's Derived/Test/ToyasCard.lean, 'card_holds'). Laid BY PROGRAM, IN A SANDBOX (cutbox-door.mjs). By AI agents, Wed Nov 11 2026. No macro, syntax, notation, axiom, sorry.
-/
import Derived.Test.YtbkjdbimkofceaaDoorRows
import GoSem.ClaimSeven
namespace Go.Proofs.YtbkjdbimkofceaaDoor
namespace Rows

/-- THE TIED CARD OF 'nightjarlaw05.CapsPlays'. -/
def capsPlaysCard : Claim7 := { stood := { row := capsPlaysRow, standIns := [], harness := (true, "454c72aacfdabf0f41d6f895734944d44a205734a1e31f7c5510b8548d9c2958"), looks := false }, kinds := [], alts := [], laidByText := true, laidKinds := [.data], laidTests := true, laidLooks := .later }
def CapsPlaysCardSaid : Prop := Claim7.holds Tryd.pinned (.plain (OpenSpec.ofChange capsPlaysSpec)) capsPlaysCard

/-- THE TIED CARD OF 'nightjarlaw05.CapsNever'. -/
def capsNeverCard : Claim7 := { stood := { row := capsNeverRow, standIns := [], harness := (true, "454c72aacfdabf0f41d6f895734944d44a205734a1e31f7c5510b8548d9c2958"), looks := false }, kinds := [], alts := [], laidByText := true, laidKinds := [.data], laidTests := true, laidLooks := .later }
def CapsNeverCardSaid : Prop := Claim7.holds Tryd.pinned (.plain (OpenSpec.ofChange capsNeverSpec)) capsNeverCard

/-- THE TIED CARD OF 'nightjarlaw05.CapsApart'. -/
def capsApartCard : Claim7 := { stood := { row := capsApartRow, standIns := [], harness := (true, "454c72aacfdabf0f41d6f895734944d44a205734a1e31f7c5510b8548d9c2958"), looks := false }, kinds := [], alts := [], laidByText := true, laidKinds := [.data], laidTests := true, laidLooks := .later }
def CapsApartCardSaid : Prop := Claim7.holds Tryd.pinned (.plain (OpenSpec.ofChange capsApartSpec)) capsApartCard

/-- THE SECOND FORM's CARD OF 'nightjarlaw05.CapsPlays'. -/
def capsPlaysUptoCard : Claim7 := { stood := { row := capsPlaysUptoRow, standIns := [], harness := (true, "454c72aacfdabf0f41d6f895734944d44a205734a1e31f7c5510b8548d9c2958"), looks := false }, kinds := [], alts := [], laidByText := true, laidKinds := [.data], laidTests := true, laidLooks := .later }
def CapsPlaysUptoCardSaid : Prop := Claim7.holds Tryd.pinned (.plain (OpenSpec.upto capsPlaysSpec)) capsPlaysUptoCard

/-- THE SECOND FORM's CARD OF 'nightjarlaw05.CapsNever'. -/
def capsNeverUptoCard : Claim7 := { stood := { row := capsNeverUptoRow, standIns := [], harness := (true, "454c72aacfdabf0f41d6f895734944d44a205734a1e31f7c5510b8548d9c2958"), looks := false }, kinds := [], alts := [], laidByText := true, laidKinds := [.data], laidTests := true, laidLooks := .later }
def CapsNeverUptoCardSaid : Prop := Claim7.holds Tryd.pinned (.plain (OpenSpec.upto capsNeverSpec)) capsNeverUptoCard

/-- THE SECOND FORM's CARD OF 'nightjarlaw05.CapsApart'. -/
def capsApartUptoCard : Claim7 := { stood := { row := capsApartUptoRow, standIns := [], harness := (true, "454c72aacfdabf0f41d6f895734944d44a205734a1e31f7c5510b8548d9c2958"), looks := false }, kinds := [], alts := [], laidByText := true, laidKinds := [.data], laidTests := true, laidLooks := .later }
def CapsApartUptoCardSaid : Prop := Claim7.holds Tryd.pinned (.plain (OpenSpec.upto capsApartSpec)) capsApartUptoCard
end Rows
end Go.Proofs.YtbkjdbimkofceaaDoor
