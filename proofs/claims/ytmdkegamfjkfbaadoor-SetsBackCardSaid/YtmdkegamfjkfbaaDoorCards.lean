/-
  DERIVED. GIVEN WITH THE SEED: THE CARDS: each row of YtmdkegamfjkfbaaDoorRows.lean that lists a variable, with what it lists TIED to the program's text (the seventh form; the later family's looks); each row that meets fmt, with fmt's text TOLD by the authors' own Lean function (tested against real Go, not proved from fmt's source: count such statements apart). THE CARD IS WHAT COUNTS. Prove the row's statement (the work); the ties are given (YtmdkegamfjkfbaaDoorTie.lean); close each card by the builder's one call (the guide's Derived/Test/ToyasCard.lean, 'card_holds'). Laid BY PROGRAM, IN A SANDBOX (cutbox-door.mjs). By AI agents, Wed Nov 11 2026. No macro, syntax, notation, axiom, sorry.
-/
import Derived.Test.YtmdkegamfjkfbaaDoorRows
import GoSem.ClaimSeven
namespace Go.Proofs.YtmdkegamfjkfbaaDoor
namespace Rows

/-- THE TIED CARD OF 'tipstafflaw14.SetsWrong'. -/
def setsWrongCard : Claim7 := { stood := { row := setsWrongRow, standIns := [], harness := (true, "ed29915e4d5b770955703058137d14a9ebf2d77d4048cea18088aa2ab54c9aba"), looks := false }, kinds := [], alts := [], laidByText := true, laidKinds := [.data, .data, .data], laidTests := true, laidLooks := .later }
def SetsWrongCardSaid : Prop := Claim7.holds Tryd.pinned (.plain (OpenSpec.ofChange setsWrongSpec)) setsWrongCard

/-- THE TIED CARD OF 'tipstafflaw14.SetsBack'. -/
def setsBackCard : Claim7 := { stood := { row := setsBackRow, standIns := [], harness := (true, "ed29915e4d5b770955703058137d14a9ebf2d77d4048cea18088aa2ab54c9aba"), looks := false }, kinds := [], alts := [], laidByText := true, laidKinds := [.data, .data, .data], laidTests := true, laidLooks := .later }
def SetsBackCardSaid : Prop := Claim7.holds Tryd.pinned (.plain (OpenSpec.ofChange setsBackSpec)) setsBackCard

/-- THE TIED CARD OF 'tipstafflaw14.SetsMoves'. -/
def setsMovesCard : Claim7 := { stood := { row := setsMovesRow, standIns := [], harness := (true, "ed29915e4d5b770955703058137d14a9ebf2d77d4048cea18088aa2ab54c9aba"), looks := false }, kinds := [], alts := [], laidByText := true, laidKinds := [.data, .data, .data], laidTests := true, laidLooks := .later }
def SetsMovesCardSaid : Prop := Claim7.holds Tryd.pinned (.plain (OpenSpec.ofChange setsMovesSpec)) setsMovesCard

/-- THE TIED CARD OF 'tipstafflaw14.SetsTurns'. -/
def setsTurnsCard : Claim7 := { stood := { row := setsTurnsRow, standIns := [], harness := (true, "ed29915e4d5b770955703058137d14a9ebf2d77d4048cea18088aa2ab54c9aba"), looks := false }, kinds := [], alts := [], laidByText := true, laidKinds := [.data, .data, .data], laidTests := true, laidLooks := .later }
def SetsTurnsCardSaid : Prop := Claim7.holds Tryd.pinned (.plain (OpenSpec.ofChange setsTurnsSpec)) setsTurnsCard

/-- THE SECOND FORM's CARD OF 'tipstafflaw14.SetsWrong'. -/
def setsWrongUptoCard : Claim7 := { stood := { row := setsWrongUptoRow, standIns := [], harness := (true, "ed29915e4d5b770955703058137d14a9ebf2d77d4048cea18088aa2ab54c9aba"), looks := false }, kinds := [], alts := [], laidByText := true, laidKinds := [.data, .data, .data], laidTests := true, laidLooks := .later }
def SetsWrongUptoCardSaid : Prop := Claim7.holds Tryd.pinned (.plain (OpenSpec.upto setsWrongSpec)) setsWrongUptoCard

/-- THE SECOND FORM's CARD OF 'tipstafflaw14.SetsBack'. -/
def setsBackUptoCard : Claim7 := { stood := { row := setsBackUptoRow, standIns := [], harness := (true, "ed29915e4d5b770955703058137d14a9ebf2d77d4048cea18088aa2ab54c9aba"), looks := false }, kinds := [], alts := [], laidByText := true, laidKinds := [.data, .data, .data], laidTests := true, laidLooks := .later }
def SetsBackUptoCardSaid : Prop := Claim7.holds Tryd.pinned (.plain (OpenSpec.upto setsBackSpec)) setsBackUptoCard

/-- THE SECOND FORM's CARD OF 'tipstafflaw14.SetsMoves'. -/
def setsMovesUptoCard : Claim7 := { stood := { row := setsMovesUptoRow, standIns := [], harness := (true, "ed29915e4d5b770955703058137d14a9ebf2d77d4048cea18088aa2ab54c9aba"), looks := false }, kinds := [], alts := [], laidByText := true, laidKinds := [.data, .data, .data], laidTests := true, laidLooks := .later }
def SetsMovesUptoCardSaid : Prop := Claim7.holds Tryd.pinned (.plain (OpenSpec.upto setsMovesSpec)) setsMovesUptoCard

/-- THE SECOND FORM's CARD OF 'tipstafflaw14.SetsTurns'. -/
def setsTurnsUptoCard : Claim7 := { stood := { row := setsTurnsUptoRow, standIns := [], harness := (true, "ed29915e4d5b770955703058137d14a9ebf2d77d4048cea18088aa2ab54c9aba"), looks := false }, kinds := [], alts := [], laidByText := true, laidKinds := [.data, .data, .data], laidTests := true, laidLooks := .later }
def SetsTurnsUptoCardSaid : Prop := Claim7.holds Tryd.pinned (.plain (OpenSpec.upto setsTurnsSpec)) setsTurnsUptoCard
end Rows
end Go.Proofs.YtmdkegamfjkfbaaDoor
