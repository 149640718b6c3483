/-
  No cell of these rows narrows 'for every input' (looked for: loops, veiled, ifaces, maps, wideKeys, modest, calm, conditions, laid).
  DERIVED. THE GIVEN ROWS OF THIS SEAT. 5 by the template 'for every input the law returns true; each argument reads behind the call as it read before'; 0 by the template 'total and deterministic' (their statements: YtonoelpmmjnpeaaTotals.lean).
  GIVEN WITH THE SEED: the statements are not yours to turn. If you find one false, say at which input.
  Laid BY PROGRAM, IN A SANDBOX (cutbox-rows.mjs): the forced cells as the released guide's own fill.sh prints them over the translation 161f2301668a9eaf… (all of the seat's roots in one cut). By AI agents, Wed Nov 11 2026. No macro, syntax, notation, axiom, sorry.
-/
import Derived.Test.YtonoelpmmjnpeaaChecked
import GoSem.Claim
import GoSem.ClaimJoined
import GoSem.ClaimMapViews
import Derived.JoinedTies
import Derived.KernelRfl
namespace Go.Proofs.Ytonoelpmmjnpeaa
/- THE CELL 'sum', in the pinned program and in every row, IS THE sha256 OF THE DUMP (.gsa) THAT YtonoelpmmjnpeaaProg.lean LOADS. Nothing in Lean hashes anything: it is a label: what it is worth is what the hold of that sum in a sandbox is worth. -/
noncomputable def Try.pinned : Pinned := { name := "ytonoelpmmjnpeaa", sum := "161f2301668a9eaf0c2839d6fd0ffaa35474f5951360dde0d53b249d9eaba147", checked := Try.checked }
namespace Rows
def none {H : Type} : Left H := { results := [], args := [] }

/-- 'tipstafflaw08.UsesAll': WHATEVER THE INPUT: true; the input reads as it did. -/
def usesAllSpec : ChangeSpec := { name := "usesAll", fn := fun _ => fun
  | [d] => { results := [.lit (.bool true)], args := [d] }
  | _ => none }
def usesAllRow : OpenClaim := { program := "ytonoelpmmjnpeaa", sum := "161f2301668a9eaf0c2839d6fd0ffaa35474f5951360dde0d53b249d9eaba147", func := "tipstaff/tipstafflaw08.UsesAll", spec := "usesAll", unfollowed := true, recurses := true, apart := false }
def UsesAllSaid : Prop := usesAllRow.holds Try.pinned (OpenSpec.ofChange usesAllSpec)

/-- ITS FALSE NEIGHBOUR: 'it returns false'. Refute it at one input. -/
def usesAllWrong : ChangeSpec := { name := "usesAll", fn := fun _ => fun
  | [d] => { results := [.lit (.bool false)], args := [d] }
  | _ => none }
def UsesAllWrongFalsely : Prop := usesAllRow.holds Try.pinned (OpenSpec.ofChange usesAllWrong)

/-- 'tipstafflaw08.UsesWords': WHATEVER THE INPUT: true; the input reads as it did. -/
def usesWordsSpec : ChangeSpec := { name := "usesWords", fn := fun _ => fun
  | [d1, d2] => { results := [.lit (.bool true)], args := [d1, d2] }
  | _ => none }
def usesWordsRow : OpenClaim := { program := "ytonoelpmmjnpeaa", sum := "161f2301668a9eaf0c2839d6fd0ffaa35474f5951360dde0d53b249d9eaba147", func := "tipstaff/tipstafflaw08.UsesWords", spec := "usesWords", unfollowed := true, recurses := true, apart := false }
def UsesWordsSaid : Prop := usesWordsRow.holds Try.pinned (OpenSpec.ofChange usesWordsSpec)

/-- ITS FALSE NEIGHBOUR: 'it returns false'. Refute it at one input. -/
def usesWordsWrong : ChangeSpec := { name := "usesWords", fn := fun _ => fun
  | [d1, d2] => { results := [.lit (.bool false)], args := [d1, d2] }
  | _ => none }
def UsesWordsWrongFalsely : Prop := usesWordsRow.holds Try.pinned (OpenSpec.ofChange usesWordsWrong)

/-- 'tipstafflaw08.UsesLetters': WHATEVER THE INPUT: true; the input reads as it did. -/
def usesLettersSpec : ChangeSpec := { name := "usesLetters", fn := fun _ => fun
  | [d1, d2] => { results := [.lit (.bool true)], args := [d1, d2] }
  | _ => none }
def usesLettersRow : OpenClaim := { program := "ytonoelpmmjnpeaa", sum := "161f2301668a9eaf0c2839d6fd0ffaa35474f5951360dde0d53b249d9eaba147", func := "tipstaff/tipstafflaw08.UsesLetters", spec := "usesLetters", unfollowed := true, recurses := true, apart := false }
def UsesLettersSaid : Prop := usesLettersRow.holds Try.pinned (OpenSpec.ofChange usesLettersSpec)

/-- ITS FALSE NEIGHBOUR: 'it returns false'. Refute it at one input. -/
def usesLettersWrong : ChangeSpec := { name := "usesLetters", fn := fun _ => fun
  | [d1, d2] => { results := [.lit (.bool false)], args := [d1, d2] }
  | _ => none }
def UsesLettersWrongFalsely : Prop := usesLettersRow.holds Try.pinned (OpenSpec.ofChange usesLettersWrong)

/-- 'tipstafflaw08.UsesMany': WHATEVER THE INPUT: true; the input reads as it did. -/
def usesManySpec : ChangeSpec := { name := "usesMany", fn := fun _ => fun
  | [d] => { results := [.lit (.bool true)], args := [d] }
  | _ => none }
def usesManyRow : OpenClaim := { program := "ytonoelpmmjnpeaa", sum := "161f2301668a9eaf0c2839d6fd0ffaa35474f5951360dde0d53b249d9eaba147", func := "tipstaff/tipstafflaw08.UsesMany", spec := "usesMany", unfollowed := true, recurses := true, apart := false }
def UsesManySaid : Prop := usesManyRow.holds Try.pinned (OpenSpec.ofChange usesManySpec)

/-- ITS FALSE NEIGHBOUR: 'it returns false'. Refute it at one input. -/
def usesManyWrong : ChangeSpec := { name := "usesMany", fn := fun _ => fun
  | [d] => { results := [.lit (.bool false)], args := [d] }
  | _ => none }
def UsesManyWrongFalsely : Prop := usesManyRow.holds Try.pinned (OpenSpec.ofChange usesManyWrong)

/-- 'tipstafflaw08.UsesNone': WHATEVER THE INPUT: true; the input reads as it did. -/
def usesNoneSpec : ChangeSpec := { name := "usesNone", fn := fun _ => fun
  | [d1, d2] => { results := [.lit (.bool true)], args := [d1, d2] }
  | _ => none }
def usesNoneRow : OpenClaim := { program := "ytonoelpmmjnpeaa", sum := "161f2301668a9eaf0c2839d6fd0ffaa35474f5951360dde0d53b249d9eaba147", func := "tipstaff/tipstafflaw08.UsesNone", spec := "usesNone", unfollowed := true, recurses := true, apart := false }
def UsesNoneSaid : Prop := usesNoneRow.holds Try.pinned (OpenSpec.ofChange usesNoneSpec)

/-- ITS FALSE NEIGHBOUR: 'it returns false'. Refute it at one input. -/
def usesNoneWrong : ChangeSpec := { name := "usesNone", fn := fun _ => fun
  | [d1, d2] => { results := [.lit (.bool false)], args := [d1, d2] }
  | _ => none }
def UsesNoneWrongFalsely : Prop := usesNoneRow.holds Try.pinned (OpenSpec.ofChange usesNoneWrong)

/- THE SECOND FORM. 'bulk': how many values and letters a reading holds, each counted each time it is reached (what is shared counts as often as it is met; a slice's spare places count too). A statement '..UptoSaid' is the law's where the arguments, and the package variables that the reading takes, are together of bulk at most 1048576: NARROWER than '..Said'. Prove '..Said' where nothing that the law and all that it calls make is longer than what came in: it says more and counts as full. Else prove '..UptoSaid'. A law counts once. -/
mutual
def uptoBulk {H : Type} : DataW H → Nat
  | .lit (.string bytes) => bytes.length + 1
  | .lit _ => 1
  | .nil => 1
  | .ptr d => uptoBulk d + 1
  | .slice elems spare => uptoBulkAll elems + uptoBulkAll spare + 1
  | .agg parts => uptoBulkAll parts + 1
  | .iface _ d => uptoBulk d + 1
  | .map entries => uptoBulkEntries entries + 1
  | .held _ => 1
def uptoBulkAll {H : Type} : List (DataW H) → Nat
  | [] => 0
  | d :: r => uptoBulk d + uptoBulkAll r
def uptoBulkEntries {H : Type} : List (Lit × DataW H) → Nat
  | [] => 0
  | x :: r => uptoBulkEntry x + uptoBulkEntries r
def uptoBulkEntry {H : Type} : Lit × DataW H → Nat
  | (.string bytes, d) => bytes.length + uptoBulk d + 1
  | (_, d) => uptoBulk d + 1
 end
def uptoSmall : (H : Type) → List (DataW H) → Bool := fun _ ds => decide (uptoBulkAll ds ≤ 1048576)
def OpenSpec.upto (s : _root_.Go.ChangeSpec) : _root_.Go.OpenSpec := { _root_.Go.OpenSpec.ofChange s with cond := some uptoSmall }

/-- 'tipstafflaw08.UsesAll', WHERE WHAT IT READS IS OF BULK AT MOST 1048576: true; the input reads as it did. -/
def usesAllUptoRow : OpenClaim := { program := "ytonoelpmmjnpeaa", sum := "161f2301668a9eaf0c2839d6fd0ffaa35474f5951360dde0d53b249d9eaba147", func := "tipstaff/tipstafflaw08.UsesAll", spec := "usesAll", unfollowed := true, recurses := true, apart := false, narrowed := true }
def UsesAllUptoSaid : Prop := usesAllUptoRow.holds Try.pinned (OpenSpec.upto usesAllSpec)

/-- 'tipstafflaw08.UsesWords', WHERE WHAT IT READS IS OF BULK AT MOST 1048576: true; the input reads as it did. -/
def usesWordsUptoRow : OpenClaim := { program := "ytonoelpmmjnpeaa", sum := "161f2301668a9eaf0c2839d6fd0ffaa35474f5951360dde0d53b249d9eaba147", func := "tipstaff/tipstafflaw08.UsesWords", spec := "usesWords", unfollowed := true, recurses := true, apart := false, narrowed := true }
def UsesWordsUptoSaid : Prop := usesWordsUptoRow.holds Try.pinned (OpenSpec.upto usesWordsSpec)

/-- 'tipstafflaw08.UsesLetters', WHERE WHAT IT READS IS OF BULK AT MOST 1048576: true; the input reads as it did. -/
def usesLettersUptoRow : OpenClaim := { program := "ytonoelpmmjnpeaa", sum := "161f2301668a9eaf0c2839d6fd0ffaa35474f5951360dde0d53b249d9eaba147", func := "tipstaff/tipstafflaw08.UsesLetters", spec := "usesLetters", unfollowed := true, recurses := true, apart := false, narrowed := true }
def UsesLettersUptoSaid : Prop := usesLettersUptoRow.holds Try.pinned (OpenSpec.upto usesLettersSpec)

/-- 'tipstafflaw08.UsesMany', WHERE WHAT IT READS IS OF BULK AT MOST 1048576: true; the input reads as it did. -/
def usesManyUptoRow : OpenClaim := { program := "ytonoelpmmjnpeaa", sum := "161f2301668a9eaf0c2839d6fd0ffaa35474f5951360dde0d53b249d9eaba147", func := "tipstaff/tipstafflaw08.UsesMany", spec := "usesMany", unfollowed := true, recurses := true, apart := false, narrowed := true }
def UsesManyUptoSaid : Prop := usesManyUptoRow.holds Try.pinned (OpenSpec.upto usesManySpec)

/-- 'tipstafflaw08.UsesNone', WHERE WHAT IT READS IS OF BULK AT MOST 1048576: true; the input reads as it did. -/
def usesNoneUptoRow : OpenClaim := { program := "ytonoelpmmjnpeaa", sum := "161f2301668a9eaf0c2839d6fd0ffaa35474f5951360dde0d53b249d9eaba147", func := "tipstaff/tipstafflaw08.UsesNone", spec := "usesNone", unfollowed := true, recurses := true, apart := false, narrowed := true }
def UsesNoneUptoSaid : Prop := usesNoneUptoRow.holds Try.pinned (OpenSpec.upto usesNoneSpec)

end Rows
end Go.Proofs.Ytonoelpmmjnpeaa
