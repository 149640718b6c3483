/-
  DERIVED. GIVEN WITH THE SEED: THE CARDS: each row of YtjikppjlkicgpaaDoorRows.lean that lists a variable, with what it lists TIED to the program's text (the seventh form; the later family's looks); each row that meets fmt, with fmt's text TOLD by the authors' own Lean function (tested against real Go, not proved from fmt's source: count such statements apart). THE CARD IS WHAT COUNTS. Prove the row's statement (the work); the ties are given (YtjikppjlkicgpaaDoorTie.lean); close each card by the builder's one call (the guide's Derived/Test/ToyasCard.lean, 'card_holds'). Laid BY PROGRAM, IN A SANDBOX (cutbox-door.mjs). By AI agents, Wed Nov 11 2026. No macro, syntax, notation, axiom, sorry.
-/
import Derived.Test.YtjikppjlkicgpaaDoorRows
import GoSem.ClaimSeven
namespace Go.Proofs.YtjikppjlkicgpaaDoor
namespace Rows

/-- THE TIED CARD OF 'tipstafflaw13.HashesWrong'. -/
def hashesWrongCard : Claim7 := { stood := { row := hashesWrongRow, standIns := [], harness := (true, "c874ae9bbfd2c1af3a50ae53d282cd9dcb7b07aae51fb0b4c973a4cd28eaf4e8"), looks := true }, kinds := [], alts := [], laidByText := true, laidKinds := [.data, .data, .data, .sentinel, .sentinel], laidTests := true, laidLooks := .later }
def HashesWrongCardSaid : Prop := Claim7.holds Tryd.pinned (.plain (OpenSpec.ofChange hashesWrongSpec)) hashesWrongCard

/-- THE TIED CARD OF 'tipstafflaw13.HashesBack'. -/
def hashesBackCard : Claim7 := { stood := { row := hashesBackRow, standIns := [], harness := (true, "c874ae9bbfd2c1af3a50ae53d282cd9dcb7b07aae51fb0b4c973a4cd28eaf4e8"), looks := true }, kinds := [], alts := [], laidByText := true, laidKinds := [.data, .data, .data, .sentinel, .sentinel], laidTests := true, laidLooks := .later }
def HashesBackCardSaid : Prop := Claim7.holds Tryd.pinned (.plain (OpenSpec.ofChange hashesBackSpec)) hashesBackCard

/-- THE TIED CARD OF 'tipstafflaw13.HashesNames'. -/
def hashesNamesCard : Claim7 := { stood := { row := hashesNamesRow, standIns := [], harness := (true, "c874ae9bbfd2c1af3a50ae53d282cd9dcb7b07aae51fb0b4c973a4cd28eaf4e8"), looks := true }, kinds := [], alts := [], laidByText := true, laidKinds := [.data, .data, .data, .sentinel, .sentinel], laidTests := true, laidLooks := .later }
def HashesNamesCardSaid : Prop := Claim7.holds Tryd.pinned (.plain (OpenSpec.ofChange hashesNamesSpec)) hashesNamesCard

/-- THE TIED CARD OF 'tipstafflaw13.HashesTurns'. -/
def hashesTurnsCard : Claim7 := { stood := { row := hashesTurnsRow, standIns := [], harness := (true, "c874ae9bbfd2c1af3a50ae53d282cd9dcb7b07aae51fb0b4c973a4cd28eaf4e8"), looks := true }, kinds := [], alts := [], laidByText := true, laidKinds := [.data, .data, .data, .sentinel, .sentinel], laidTests := true, laidLooks := .later }
def HashesTurnsCardSaid : Prop := Claim7.holds Tryd.pinned (.plain (OpenSpec.ofChange hashesTurnsSpec)) hashesTurnsCard

/-- THE SECOND FORM's CARD OF 'tipstafflaw13.HashesWrong'. -/
def hashesWrongUptoCard : Claim7 := { stood := { row := hashesWrongUptoRow, standIns := [], harness := (true, "c874ae9bbfd2c1af3a50ae53d282cd9dcb7b07aae51fb0b4c973a4cd28eaf4e8"), looks := true }, kinds := [], alts := [], laidByText := true, laidKinds := [.data, .data, .data, .sentinel, .sentinel], laidTests := true, laidLooks := .later }
def HashesWrongUptoCardSaid : Prop := Claim7.holds Tryd.pinned (.plain (OpenSpec.upto hashesWrongSpec)) hashesWrongUptoCard

/-- THE SECOND FORM's CARD OF 'tipstafflaw13.HashesBack'. -/
def hashesBackUptoCard : Claim7 := { stood := { row := hashesBackUptoRow, standIns := [], harness := (true, "c874ae9bbfd2c1af3a50ae53d282cd9dcb7b07aae51fb0b4c973a4cd28eaf4e8"), looks := true }, kinds := [], alts := [], laidByText := true, laidKinds := [.data, .data, .data, .sentinel, .sentinel], laidTests := true, laidLooks := .later }
def HashesBackUptoCardSaid : Prop := Claim7.holds Tryd.pinned (.plain (OpenSpec.upto hashesBackSpec)) hashesBackUptoCard

/-- THE SECOND FORM's CARD OF 'tipstafflaw13.HashesNames'. -/
def hashesNamesUptoCard : Claim7 := { stood := { row := hashesNamesUptoRow, standIns := [], harness := (true, "c874ae9bbfd2c1af3a50ae53d282cd9dcb7b07aae51fb0b4c973a4cd28eaf4e8"), looks := true }, kinds := [], alts := [], laidByText := true, laidKinds := [.data, .data, .data, .sentinel, .sentinel], laidTests := true, laidLooks := .later }
def HashesNamesUptoCardSaid : Prop := Claim7.holds Tryd.pinned (.plain (OpenSpec.upto hashesNamesSpec)) hashesNamesUptoCard

/-- THE SECOND FORM's CARD OF 'tipstafflaw13.HashesTurns'. -/
def hashesTurnsUptoCard : Claim7 := { stood := { row := hashesTurnsUptoRow, standIns := [], harness := (true, "c874ae9bbfd2c1af3a50ae53d282cd9dcb7b07aae51fb0b4c973a4cd28eaf4e8"), looks := true }, kinds := [], alts := [], laidByText := true, laidKinds := [.data, .data, .data, .sentinel, .sentinel], laidTests := true, laidLooks := .later }
def HashesTurnsUptoCardSaid : Prop := Claim7.holds Tryd.pinned (.plain (OpenSpec.upto hashesTurnsSpec)) hashesTurnsUptoCard
end Rows
end Go.Proofs.YtjikppjlkicgpaaDoor
