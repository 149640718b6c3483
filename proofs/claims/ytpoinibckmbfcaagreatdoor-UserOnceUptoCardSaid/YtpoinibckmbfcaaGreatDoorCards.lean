/-
  DERIVED. GIVEN WITH THE SEED: THE CARDS: each row of YtpoinibckmbfcaaGreatDoorRows.lean that lists a variable, with what it lists TIED to the program's text (the seventh form; the later family's looks); each row that meets fmt, with fmt's text TOLD by the authors' own Lean function (tested against real Go, not proved from fmt's source: count such statements apart). THE CARD IS WHAT COUNTS. Prove the row's statement (the work); the ties are given (YtpoinibckmbfcaaGreatDoorTie.lean); close each card by the builder's one call (the guide's Derived/Test/ToyasCard.lean, 'card_holds'). Laid BY PROGRAM, IN A SANDBOX (cutbox-door.mjs). By AI agents, Wed Nov 11 2026. No macro, syntax, notation, axiom, sorry.
-/
import Derived.Test.YtpoinibckmbfcaaGreatDoorRows
import GoSem.ClaimSeven
namespace Go.Proofs.YtpoinibckmbfcaaGreatDoor
namespace Rows

/-- THE TIED CARD OF 'tipstafflaw18.UserAll'. -/
def userAllCard : Claim7 := { stood := { row := userAllRow, standIns := [], harness := (true, "fbfdfadbb217f59e10f573b8d29766c193d4fc9f948f9ac1295463dcc53e8ba7"), looks := true }, kinds := [], alts := [], laidByText := true, laidKinds := [.data, .data, .data, .data, .data, .data, .sentinel, .sentinel, .pinned], laidTests := true, laidLooks := .later }
def UserAllCardSaid : Prop := Claim7.holds Tryz.pinned (.plain (OpenSpec.ofChange userAllSpec)) userAllCard

/-- THE TIED CARD OF 'tipstafflaw18.UserBack'. -/
def userBackCard : Claim7 := { stood := { row := userBackRow, standIns := [], harness := (true, "fbfdfadbb217f59e10f573b8d29766c193d4fc9f948f9ac1295463dcc53e8ba7"), looks := true }, kinds := [], alts := [], laidByText := true, laidKinds := [.data, .data, .data, .data, .data, .data, .sentinel, .sentinel, .pinned], laidTests := true, laidLooks := .later }
def UserBackCardSaid : Prop := Claim7.holds Tryz.pinned (.plain (OpenSpec.ofChange userBackSpec)) userBackCard

/-- THE TIED CARD OF 'tipstafflaw18.UserOnce'. -/
def userOnceCard : Claim7 := { stood := { row := userOnceRow, standIns := [], harness := (true, "fbfdfadbb217f59e10f573b8d29766c193d4fc9f948f9ac1295463dcc53e8ba7"), looks := true }, kinds := [], alts := [], laidByText := true, laidKinds := [.data, .data, .data, .data, .data, .data, .sentinel, .sentinel, .pinned], laidTests := true, laidLooks := .later }
def UserOnceCardSaid : Prop := Claim7.holds Tryz.pinned (.plain (OpenSpec.ofChange userOnceSpec)) userOnceCard

/-- THE TIED CARD OF 'tipstafflaw18.UserBoth'. -/
def userBothCard : Claim7 := { stood := { row := userBothRow, standIns := [], harness := (true, "fbfdfadbb217f59e10f573b8d29766c193d4fc9f948f9ac1295463dcc53e8ba7"), looks := true }, kinds := [], alts := [], laidByText := true, laidKinds := [.data, .data, .data, .data, .data, .data, .sentinel, .sentinel, .pinned], laidTests := true, laidLooks := .later }
def UserBothCardSaid : Prop := Claim7.holds Tryz.pinned (.plain (OpenSpec.ofChange userBothSpec)) userBothCard

/-- THE SECOND FORM's CARD OF 'tipstafflaw18.UserAll'. -/
def userAllUptoCard : Claim7 := { stood := { row := userAllUptoRow, standIns := [], harness := (true, "fbfdfadbb217f59e10f573b8d29766c193d4fc9f948f9ac1295463dcc53e8ba7"), looks := true }, kinds := [], alts := [], laidByText := true, laidKinds := [.data, .data, .data, .data, .data, .data, .sentinel, .sentinel, .pinned], laidTests := true, laidLooks := .later }
def UserAllUptoCardSaid : Prop := Claim7.holds Tryz.pinned (.plain (OpenSpec.upto userAllSpec)) userAllUptoCard

/-- THE SECOND FORM's CARD OF 'tipstafflaw18.UserBack'. -/
def userBackUptoCard : Claim7 := { stood := { row := userBackUptoRow, standIns := [], harness := (true, "fbfdfadbb217f59e10f573b8d29766c193d4fc9f948f9ac1295463dcc53e8ba7"), looks := true }, kinds := [], alts := [], laidByText := true, laidKinds := [.data, .data, .data, .data, .data, .data, .sentinel, .sentinel, .pinned], laidTests := true, laidLooks := .later }
def UserBackUptoCardSaid : Prop := Claim7.holds Tryz.pinned (.plain (OpenSpec.upto userBackSpec)) userBackUptoCard

/-- THE SECOND FORM's CARD OF 'tipstafflaw18.UserOnce'. -/
def userOnceUptoCard : Claim7 := { stood := { row := userOnceUptoRow, standIns := [], harness := (true, "fbfdfadbb217f59e10f573b8d29766c193d4fc9f948f9ac1295463dcc53e8ba7"), looks := true }, kinds := [], alts := [], laidByText := true, laidKinds := [.data, .data, .data, .data, .data, .data, .sentinel, .sentinel, .pinned], laidTests := true, laidLooks := .later }
def UserOnceUptoCardSaid : Prop := Claim7.holds Tryz.pinned (.plain (OpenSpec.upto userOnceSpec)) userOnceUptoCard

/-- THE SECOND FORM's CARD OF 'tipstafflaw18.UserBoth'. -/
def userBothUptoCard : Claim7 := { stood := { row := userBothUptoRow, standIns := [], harness := (true, "fbfdfadbb217f59e10f573b8d29766c193d4fc9f948f9ac1295463dcc53e8ba7"), looks := true }, kinds := [], alts := [], laidByText := true, laidKinds := [.data, .data, .data, .data, .data, .data, .sentinel, .sentinel, .pinned], laidTests := true, laidLooks := .later }
def UserBothUptoCardSaid : Prop := Claim7.holds Tryz.pinned (.plain (OpenSpec.upto userBothSpec)) userBothUptoCard
end Rows
end Go.Proofs.YtpoinibckmbfcaaGreatDoor
