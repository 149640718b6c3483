/-
  DERIVED. GIVEN WITH THE SEED: THE CARDS: each row of YtjcohlpjlifolaaDoorRows.lean that lists a variable, with what it lists TIED to the program's text (the seventh form; the later family's looks); each row that meets fmt, with fmt's text TOLD by the authors' own Lean function (tested against real Go, not proved from fmt's source: count such statements apart). THE CARD IS WHAT COUNTS. Prove the row's statement (the work); the ties are given (YtjcohlpjlifolaaDoorTie.lean); close each card by the builder's one call (the guide's Derived/Test/ToyasCard.lean, 'card_holds'). Laid BY PROGRAM, IN A SANDBOX (cutbox-door.mjs). By AI agents, Wed Nov 11 2026. No macro, syntax, notation, axiom, sorry.
-/
import Derived.Test.YtjcohlpjlifolaaDoorRows
import GoSem.ClaimSeven
namespace Go.Proofs.YtjcohlpjlifolaaDoor
namespace Rows

/-- THE TIED CARD OF 'tipstafflaw03.MacAll'. -/
def macAllCard : Claim7 := { stood := { row := macAllRow, standIns := [], harness := (true, "a97d2f833ba47a3cd9e536dfd5b4013486cc3d90545580b00fc568ac51eb27b5"), looks := true }, kinds := [], alts := [], laidByText := true, laidKinds := [.data, .data, .data, .data, .data, .data, .sentinel, .sentinel, .pinned], laidTests := true, laidLooks := .later }
def MacAllCardSaid : Prop := Claim7.holds Tryd.pinned (.plain (OpenSpec.ofChange macAllSpec)) macAllCard

/-- THE TIED CARD OF 'tipstafflaw03.MacRecords'. -/
def macRecordsCard : Claim7 := { stood := { row := macRecordsRow, standIns := [], harness := (true, "a97d2f833ba47a3cd9e536dfd5b4013486cc3d90545580b00fc568ac51eb27b5"), looks := true }, kinds := [], alts := [], laidByText := true, laidKinds := [.data, .data, .data, .data, .data, .data, .sentinel, .sentinel, .pinned], laidTests := true, laidLooks := .later }
def MacRecordsCardSaid : Prop := Claim7.holds Tryd.pinned (.plain (OpenSpec.ofChange macRecordsSpec)) macRecordsCard

/-- THE TIED CARD OF 'tipstafflaw03.MacChecks'. -/
def macChecksCard : Claim7 := { stood := { row := macChecksRow, standIns := [], harness := (true, "a97d2f833ba47a3cd9e536dfd5b4013486cc3d90545580b00fc568ac51eb27b5"), looks := true }, kinds := [], alts := [], laidByText := true, laidKinds := [.data, .data, .data, .data, .data, .data, .sentinel, .sentinel, .pinned], laidTests := true, laidLooks := .later }
def MacChecksCardSaid : Prop := Claim7.holds Tryd.pinned (.plain (OpenSpec.ofChange macChecksSpec)) macChecksCard

/-- THE TIED CARD OF 'tipstafflaw03.MacSame'. -/
def macSameCard : Claim7 := { stood := { row := macSameRow, standIns := [], harness := (true, "a97d2f833ba47a3cd9e536dfd5b4013486cc3d90545580b00fc568ac51eb27b5"), looks := true }, kinds := [], alts := [], laidByText := true, laidKinds := [.data, .data, .data, .data, .data, .data, .sentinel, .sentinel, .pinned], laidTests := true, laidLooks := .later }
def MacSameCardSaid : Prop := Claim7.holds Tryd.pinned (.plain (OpenSpec.ofChange macSameSpec)) macSameCard

/-- THE TIED CARD OF 'tipstafflaw03.MacRounds'. -/
def macRoundsCard : Claim7 := { stood := { row := macRoundsRow, standIns := [], harness := (true, "a97d2f833ba47a3cd9e536dfd5b4013486cc3d90545580b00fc568ac51eb27b5"), looks := true }, kinds := [], alts := [], laidByText := true, laidKinds := [.data, .data, .data, .data, .data, .data, .sentinel, .sentinel, .pinned], laidTests := true, laidLooks := .later }
def MacRoundsCardSaid : Prop := Claim7.holds Tryd.pinned (.plain (OpenSpec.ofChange macRoundsSpec)) macRoundsCard

/-- THE TIED CARD OF 'tipstafflaw03.MacShapes'. -/
def macShapesCard : Claim7 := { stood := { row := macShapesRow, standIns := [], harness := (true, "a97d2f833ba47a3cd9e536dfd5b4013486cc3d90545580b00fc568ac51eb27b5"), looks := true }, kinds := [], alts := [], laidByText := true, laidKinds := [.data, .data, .data, .data, .data, .data, .sentinel, .sentinel, .pinned], laidTests := true, laidLooks := .later }
def MacShapesCardSaid : Prop := Claim7.holds Tryd.pinned (.plain (OpenSpec.ofChange macShapesSpec)) macShapesCard

/-- THE TIED CARD OF 'tipstafflaw03.MacPads'. -/
def macPadsCard : Claim7 := { stood := { row := macPadsRow, standIns := [], harness := (true, "a97d2f833ba47a3cd9e536dfd5b4013486cc3d90545580b00fc568ac51eb27b5"), looks := true }, kinds := [], alts := [], laidByText := true, laidKinds := [.data, .data, .data, .data, .data, .data, .sentinel, .sentinel, .pinned], laidTests := true, laidLooks := .later }
def MacPadsCardSaid : Prop := Claim7.holds Tryd.pinned (.plain (OpenSpec.ofChange macPadsSpec)) macPadsCard

/-- THE SECOND FORM's CARD OF 'tipstafflaw03.MacAll'. -/
def macAllUptoCard : Claim7 := { stood := { row := macAllUptoRow, standIns := [], harness := (true, "a97d2f833ba47a3cd9e536dfd5b4013486cc3d90545580b00fc568ac51eb27b5"), looks := true }, kinds := [], alts := [], laidByText := true, laidKinds := [.data, .data, .data, .data, .data, .data, .sentinel, .sentinel, .pinned], laidTests := true, laidLooks := .later }
def MacAllUptoCardSaid : Prop := Claim7.holds Tryd.pinned (.plain (OpenSpec.upto macAllSpec)) macAllUptoCard

/-- THE SECOND FORM's CARD OF 'tipstafflaw03.MacRecords'. -/
def macRecordsUptoCard : Claim7 := { stood := { row := macRecordsUptoRow, standIns := [], harness := (true, "a97d2f833ba47a3cd9e536dfd5b4013486cc3d90545580b00fc568ac51eb27b5"), looks := true }, kinds := [], alts := [], laidByText := true, laidKinds := [.data, .data, .data, .data, .data, .data, .sentinel, .sentinel, .pinned], laidTests := true, laidLooks := .later }
def MacRecordsUptoCardSaid : Prop := Claim7.holds Tryd.pinned (.plain (OpenSpec.upto macRecordsSpec)) macRecordsUptoCard

/-- THE SECOND FORM's CARD OF 'tipstafflaw03.MacChecks'. -/
def macChecksUptoCard : Claim7 := { stood := { row := macChecksUptoRow, standIns := [], harness := (true, "a97d2f833ba47a3cd9e536dfd5b4013486cc3d90545580b00fc568ac51eb27b5"), looks := true }, kinds := [], alts := [], laidByText := true, laidKinds := [.data, .data, .data, .data, .data, .data, .sentinel, .sentinel, .pinned], laidTests := true, laidLooks := .later }
def MacChecksUptoCardSaid : Prop := Claim7.holds Tryd.pinned (.plain (OpenSpec.upto macChecksSpec)) macChecksUptoCard

/-- THE SECOND FORM's CARD OF 'tipstafflaw03.MacSame'. -/
def macSameUptoCard : Claim7 := { stood := { row := macSameUptoRow, standIns := [], harness := (true, "a97d2f833ba47a3cd9e536dfd5b4013486cc3d90545580b00fc568ac51eb27b5"), looks := true }, kinds := [], alts := [], laidByText := true, laidKinds := [.data, .data, .data, .data, .data, .data, .sentinel, .sentinel, .pinned], laidTests := true, laidLooks := .later }
def MacSameUptoCardSaid : Prop := Claim7.holds Tryd.pinned (.plain (OpenSpec.upto macSameSpec)) macSameUptoCard

/-- THE SECOND FORM's CARD OF 'tipstafflaw03.MacRounds'. -/
def macRoundsUptoCard : Claim7 := { stood := { row := macRoundsUptoRow, standIns := [], harness := (true, "a97d2f833ba47a3cd9e536dfd5b4013486cc3d90545580b00fc568ac51eb27b5"), looks := true }, kinds := [], alts := [], laidByText := true, laidKinds := [.data, .data, .data, .data, .data, .data, .sentinel, .sentinel, .pinned], laidTests := true, laidLooks := .later }
def MacRoundsUptoCardSaid : Prop := Claim7.holds Tryd.pinned (.plain (OpenSpec.upto macRoundsSpec)) macRoundsUptoCard

/-- THE SECOND FORM's CARD OF 'tipstafflaw03.MacShapes'. -/
def macShapesUptoCard : Claim7 := { stood := { row := macShapesUptoRow, standIns := [], harness := (true, "a97d2f833ba47a3cd9e536dfd5b4013486cc3d90545580b00fc568ac51eb27b5"), looks := true }, kinds := [], alts := [], laidByText := true, laidKinds := [.data, .data, .data, .data, .data, .data, .sentinel, .sentinel, .pinned], laidTests := true, laidLooks := .later }
def MacShapesUptoCardSaid : Prop := Claim7.holds Tryd.pinned (.plain (OpenSpec.upto macShapesSpec)) macShapesUptoCard

/-- THE SECOND FORM's CARD OF 'tipstafflaw03.MacPads'. -/
def macPadsUptoCard : Claim7 := { stood := { row := macPadsUptoRow, standIns := [], harness := (true, "a97d2f833ba47a3cd9e536dfd5b4013486cc3d90545580b00fc568ac51eb27b5"), looks := true }, kinds := [], alts := [], laidByText := true, laidKinds := [.data, .data, .data, .data, .data, .data, .sentinel, .sentinel, .pinned], laidTests := true, laidLooks := .later }
def MacPadsUptoCardSaid : Prop := Claim7.holds Tryd.pinned (.plain (OpenSpec.upto macPadsSpec)) macPadsUptoCard
end Rows
end Go.Proofs.YtjcohlpjlifolaaDoor
