/-
  What is done with a text, as the document's layer 11 says it: pure.
-/
import Derived.Test.YthiaflnlmabikaaDoorDoMath
import Derived.Test.YthiaflnlmabikaaDoorNumParse
import Derived.Test.YthiaflnlmabikaaDoorNumAdd
namespace Go.Proofs.YthiaflnlmabikaaDoor.TxtT
open ValT ReplyMath Low DoT NumL NumW
open Go.Lib (itoa)
set_option linter.unusedVariables false
set_option maxRecDepth 100000

def nGet : List UInt8 := [103, 101, 116]
def nGetdel : List UInt8 := [103, 101, 116, 100, 101, 108]
def nAppend : List UInt8 := [97, 112, 112, 101, 110, 100]
def nStrlen : List UInt8 := [115, 116, 114, 108, 101, 110]
def nIncrby : List UInt8 := [105, 110, 99, 114, 98, 121]
def nIncr : List UInt8 := [105, 110, 99, 114]
def getR (d : V) : List UInt8 := if d.kind = 0 then null else bulk d.s
/-- The number that a text says: none says 0. -/
def numV (d : V) : Int := if d.kind = 0 then 0 else pV d.s
def numB (d : V) : Bool := if d.kind = 0 then true else pB d.s
def sumD (d : V) (s : Int) (ok : Bool) : V × List UInt8 := if ok = true then (textV (itoa s), int s) else (d, eOver)
def addD (d : V) (by_ : Int) : V × List UInt8 := if numB d = true then sumD d (addV (numV d) by_) (addB (numV d) by_) else (d, eInt)
def byD (d : V) (s : List UInt8) : V × List UInt8 := if pB s = true then addD d (pV s) else (d, eInt)
def deedD (k : Nat) (d : V) (L : List (List UInt8)) : V × List UInt8 :=
  match k with
  | 0 => (d, getR d)
  | 1 => (v0, getR d)
  | 2 => (textV (d.s ++ wd L 2), int ((d.s.length + (wd L 2).length : Nat) : Int))
  | 3 => (d, int (d.s.length : Int))
  | 4 => byD d (wd L 2)
  | _ => addD d 1
/-- What a request of the k-th command comes to. -/
def doD (k : Nat) (d : V) (L : List (List UInt8)) : V × List UInt8 := if d.kind = 0 ∨ d.kind = 1 then deedD k d L else (d, eWrong)
def nameD (k : Nat) : List UInt8 :=
  match k with
  | 0 => nGet
  | 1 => nGetdel
  | 2 => nAppend
  | 3 => nStrlen
  | 4 => nIncrby
  | _ => nIncr
/-- How many words it must have. -/
def needD (k : Nat) : Nat := if k = 2 ∨ k = 4 then 3 else 2
theorem numV_in (d : V) : -9223372036854775808 ≤ numV d ∧ numV d ≤ 9223372036854775807 := by
  unfold numV
  split
  · omega
  · exact pV_bounds _

end Go.Proofs.YthiaflnlmabikaaDoor.TxtT
