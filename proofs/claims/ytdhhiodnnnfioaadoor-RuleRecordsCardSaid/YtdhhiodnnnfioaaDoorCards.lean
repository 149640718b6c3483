/-
  DERIVED. GIVEN WITH THE SEED: THE CARDS: each row of YtdhhiodnnnfioaaDoorRows.lean that lists a variable, with what it lists TIED to the program's text (the seventh form; the later family's looks); each row that meets fmt, with fmt's text TOLD by the authors' own Lean function (tested against real Go, not proved from fmt's source: count such statements apart). THE CARD IS WHAT COUNTS. Prove the row's statement (the work); the ties are given (YtdhhiodnnnfioaaDoorTie.lean); close each card by the builder's one call (the guide's Derived/Test/ToyasCard.lean, 'card_holds'). Laid BY PROGRAM, IN A SANDBOX (cutbox-door.mjs). By AI agents, Wed Nov 11 2026. No macro, syntax, notation, axiom, sorry.
-/
import Derived.Test.YtdhhiodnnnfioaaDoorRows
import GoSem.ClaimSeven
namespace Go.Proofs.YtdhhiodnnnfioaaDoor
namespace Rows

/-- THE TIED CARD OF 'tipstafflaw17.RuleAll'. -/
def ruleAllCard : Claim7 := { stood := { row := ruleAllRow, standIns := [], harness := (true, "6bd396487f3fdf70f54000429d50e5aa6e036c4cd4a4f72f164c282016acbbfe"), looks := true }, kinds := [], alts := [], laidByText := true, laidKinds := [.data, .data, .data, .data, .sentinel, .sentinel, .pinned], laidTests := true, laidLooks := .later }
def RuleAllCardSaid : Prop := Claim7.holds Tryd.pinned (.plain (OpenSpec.ofChange ruleAllSpec)) ruleAllCard

/-- THE TIED CARD OF 'tipstafflaw17.RuleCommands'. -/
def ruleCommandsCard : Claim7 := { stood := { row := ruleCommandsRow, standIns := [], harness := (true, "6bd396487f3fdf70f54000429d50e5aa6e036c4cd4a4f72f164c282016acbbfe"), looks := true }, kinds := [], alts := [], laidByText := true, laidKinds := [.data, .data, .data, .data, .sentinel, .sentinel, .pinned], laidTests := true, laidLooks := .later }
def RuleCommandsCardSaid : Prop := Claim7.holds Tryd.pinned (.plain (OpenSpec.ofChange ruleCommandsSpec)) ruleCommandsCard

/-- THE TIED CARD OF 'tipstafflaw17.RulePatterns'. -/
def rulePatternsCard : Claim7 := { stood := { row := rulePatternsRow, standIns := [], harness := (true, "6bd396487f3fdf70f54000429d50e5aa6e036c4cd4a4f72f164c282016acbbfe"), looks := true }, kinds := [], alts := [], laidByText := true, laidKinds := [.data, .data, .data, .data, .sentinel, .sentinel, .pinned], laidTests := true, laidLooks := .later }
def RulePatternsCardSaid : Prop := Claim7.holds Tryd.pinned (.plain (OpenSpec.ofChange rulePatternsSpec)) rulePatternsCard

/-- THE TIED CARD OF 'tipstafflaw17.RuleRecords'. -/
def ruleRecordsCard : Claim7 := { stood := { row := ruleRecordsRow, standIns := [], harness := (true, "6bd396487f3fdf70f54000429d50e5aa6e036c4cd4a4f72f164c282016acbbfe"), looks := true }, kinds := [], alts := [], laidByText := true, laidKinds := [.data, .data, .data, .data, .sentinel, .sentinel, .pinned], laidTests := true, laidLooks := .later }
def RuleRecordsCardSaid : Prop := Claim7.holds Tryd.pinned (.plain (OpenSpec.ofChange ruleRecordsSpec)) ruleRecordsCard

/-- THE SECOND FORM's CARD OF 'tipstafflaw17.RuleAll'. -/
def ruleAllUptoCard : Claim7 := { stood := { row := ruleAllUptoRow, standIns := [], harness := (true, "6bd396487f3fdf70f54000429d50e5aa6e036c4cd4a4f72f164c282016acbbfe"), looks := true }, kinds := [], alts := [], laidByText := true, laidKinds := [.data, .data, .data, .data, .sentinel, .sentinel, .pinned], laidTests := true, laidLooks := .later }
def RuleAllUptoCardSaid : Prop := Claim7.holds Tryd.pinned (.plain (OpenSpec.upto ruleAllSpec)) ruleAllUptoCard

/-- THE SECOND FORM's CARD OF 'tipstafflaw17.RuleCommands'. -/
def ruleCommandsUptoCard : Claim7 := { stood := { row := ruleCommandsUptoRow, standIns := [], harness := (true, "6bd396487f3fdf70f54000429d50e5aa6e036c4cd4a4f72f164c282016acbbfe"), looks := true }, kinds := [], alts := [], laidByText := true, laidKinds := [.data, .data, .data, .data, .sentinel, .sentinel, .pinned], laidTests := true, laidLooks := .later }
def RuleCommandsUptoCardSaid : Prop := Claim7.holds Tryd.pinned (.plain (OpenSpec.upto ruleCommandsSpec)) ruleCommandsUptoCard

/-- THE SECOND FORM's CARD OF 'tipstafflaw17.RulePatterns'. -/
def rulePatternsUptoCard : Claim7 := { stood := { row := rulePatternsUptoRow, standIns := [], harness := (true, "6bd396487f3fdf70f54000429d50e5aa6e036c4cd4a4f72f164c282016acbbfe"), looks := true }, kinds := [], alts := [], laidByText := true, laidKinds := [.data, .data, .data, .data, .sentinel, .sentinel, .pinned], laidTests := true, laidLooks := .later }
def RulePatternsUptoCardSaid : Prop := Claim7.holds Tryd.pinned (.plain (OpenSpec.upto rulePatternsSpec)) rulePatternsUptoCard

/-- THE SECOND FORM's CARD OF 'tipstafflaw17.RuleRecords'. -/
def ruleRecordsUptoCard : Claim7 := { stood := { row := ruleRecordsUptoRow, standIns := [], harness := (true, "6bd396487f3fdf70f54000429d50e5aa6e036c4cd4a4f72f164c282016acbbfe"), looks := true }, kinds := [], alts := [], laidByText := true, laidKinds := [.data, .data, .data, .data, .sentinel, .sentinel, .pinned], laidTests := true, laidLooks := .later }
def RuleRecordsUptoCardSaid : Prop := Claim7.holds Tryd.pinned (.plain (OpenSpec.upto ruleRecordsSpec)) ruleRecordsUptoCard
end Rows
end Go.Proofs.YtdhhiodnnnfioaaDoor
