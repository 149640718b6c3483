/-
  DERIVED. GIVEN WITH THE SEED: THE CARDS: each row of YtodpocciimbjbaaDoorRows.lean that lists a variable, with what it lists TIED to the program's text (the seventh form; the later family's looks); each row that meets fmt, with fmt's text TOLD by the authors' own Lean function (tested against real Go, not proved from fmt's source: count such statements apart). THE CARD IS WHAT COUNTS. Prove the row's statement (the work); the ties are given (YtodpocciimbjbaaDoorTie.lean); close each card by the builder's one call (the guide's Derived/Test/ToyasCard.lean, 'card_holds'). Laid BY PROGRAM, IN A SANDBOX (cutbox-door.mjs). By AI agents, Wed Nov 11 2026. No macro, syntax, notation, axiom, sorry.
-/
import Derived.Test.YtodpocciimbjbaaDoorRows
import GoSem.ClaimSeven
namespace Go.Proofs.YtodpocciimbjbaaDoor
namespace Rows

/-- THE TIED CARD OF 'tipstafflaw15.SortedWrong'. -/
def sortedWrongCard : Claim7 := { stood := { row := sortedWrongRow, standIns := [], harness := (true, "14faaa283e6c23de61e92a0d6773f3b8850b46b6bab70ffa6fef8b9227ac3995"), looks := true }, kinds := [], alts := [], laidByText := true, laidKinds := [.data, .data, .data, .sentinel, .sentinel], laidTests := true, laidLooks := .later }
def SortedWrongCardSaid : Prop := Claim7.holds Tryd.pinned (.plain (OpenSpec.ofChange sortedWrongSpec)) sortedWrongCard

/-- THE TIED CARD OF 'tipstafflaw15.SortedBack'. -/
def sortedBackCard : Claim7 := { stood := { row := sortedBackRow, standIns := [], harness := (true, "14faaa283e6c23de61e92a0d6773f3b8850b46b6bab70ffa6fef8b9227ac3995"), looks := true }, kinds := [], alts := [], laidByText := true, laidKinds := [.data, .data, .data, .sentinel, .sentinel], laidTests := true, laidLooks := .later }
def SortedBackCardSaid : Prop := Claim7.holds Tryd.pinned (.plain (OpenSpec.ofChange sortedBackSpec)) sortedBackCard

/-- THE TIED CARD OF 'tipstafflaw15.SortedRanges'. -/
def sortedRangesCard : Claim7 := { stood := { row := sortedRangesRow, standIns := [], harness := (true, "14faaa283e6c23de61e92a0d6773f3b8850b46b6bab70ffa6fef8b9227ac3995"), looks := true }, kinds := [], alts := [], laidByText := true, laidKinds := [.data, .data, .data, .sentinel, .sentinel], laidTests := true, laidLooks := .later }
def SortedRangesCardSaid : Prop := Claim7.holds Tryd.pinned (.plain (OpenSpec.ofChange sortedRangesSpec)) sortedRangesCard

/-- THE TIED CARD OF 'tipstafflaw15.SortedTies'. -/
def sortedTiesCard : Claim7 := { stood := { row := sortedTiesRow, standIns := [], harness := (true, "14faaa283e6c23de61e92a0d6773f3b8850b46b6bab70ffa6fef8b9227ac3995"), looks := true }, kinds := [], alts := [], laidByText := true, laidKinds := [.data, .data, .data, .sentinel, .sentinel], laidTests := true, laidLooks := .later }
def SortedTiesCardSaid : Prop := Claim7.holds Tryd.pinned (.plain (OpenSpec.ofChange sortedTiesSpec)) sortedTiesCard

/-- THE SECOND FORM's CARD OF 'tipstafflaw15.SortedWrong'. -/
def sortedWrongUptoCard : Claim7 := { stood := { row := sortedWrongUptoRow, standIns := [], harness := (true, "14faaa283e6c23de61e92a0d6773f3b8850b46b6bab70ffa6fef8b9227ac3995"), looks := true }, kinds := [], alts := [], laidByText := true, laidKinds := [.data, .data, .data, .sentinel, .sentinel], laidTests := true, laidLooks := .later }
def SortedWrongUptoCardSaid : Prop := Claim7.holds Tryd.pinned (.plain (OpenSpec.upto sortedWrongSpec)) sortedWrongUptoCard

/-- THE SECOND FORM's CARD OF 'tipstafflaw15.SortedBack'. -/
def sortedBackUptoCard : Claim7 := { stood := { row := sortedBackUptoRow, standIns := [], harness := (true, "14faaa283e6c23de61e92a0d6773f3b8850b46b6bab70ffa6fef8b9227ac3995"), looks := true }, kinds := [], alts := [], laidByText := true, laidKinds := [.data, .data, .data, .sentinel, .sentinel], laidTests := true, laidLooks := .later }
def SortedBackUptoCardSaid : Prop := Claim7.holds Tryd.pinned (.plain (OpenSpec.upto sortedBackSpec)) sortedBackUptoCard

/-- THE SECOND FORM's CARD OF 'tipstafflaw15.SortedRanges'. -/
def sortedRangesUptoCard : Claim7 := { stood := { row := sortedRangesUptoRow, standIns := [], harness := (true, "14faaa283e6c23de61e92a0d6773f3b8850b46b6bab70ffa6fef8b9227ac3995"), looks := true }, kinds := [], alts := [], laidByText := true, laidKinds := [.data, .data, .data, .sentinel, .sentinel], laidTests := true, laidLooks := .later }
def SortedRangesUptoCardSaid : Prop := Claim7.holds Tryd.pinned (.plain (OpenSpec.upto sortedRangesSpec)) sortedRangesUptoCard

/-- THE SECOND FORM's CARD OF 'tipstafflaw15.SortedTies'. -/
def sortedTiesUptoCard : Claim7 := { stood := { row := sortedTiesUptoRow, standIns := [], harness := (true, "14faaa283e6c23de61e92a0d6773f3b8850b46b6bab70ffa6fef8b9227ac3995"), looks := true }, kinds := [], alts := [], laidByText := true, laidKinds := [.data, .data, .data, .sentinel, .sentinel], laidTests := true, laidLooks := .later }
def SortedTiesUptoCardSaid : Prop := Claim7.holds Tryd.pinned (.plain (OpenSpec.upto sortedTiesSpec)) sortedTiesUptoCard
end Rows
end Go.Proofs.YtodpocciimbjbaaDoor
