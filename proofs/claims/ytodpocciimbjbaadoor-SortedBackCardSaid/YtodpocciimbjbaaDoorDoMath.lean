/-
  Requests of values: the errors that the document names, and what a request of any layer of values asks: pure.
-/
import Derived.Test.YtodpocciimbjbaaDoorValMaths
import Derived.Test.YtodpocciimbjbaaDoorReplyMath
import Derived.Test.YtodpocciimbjbaaDoorLow
namespace Go.Proofs.YtodpocciimbjbaaDoor.DoT
open ValT ReplyMath Low
set_option linter.unusedVariables false
set_option maxRecDepth 100000

def mWrong : List UInt8 := [87, 82, 79, 78, 71, 84, 89, 80, 69, 32, 79, 112, 101, 114, 97, 116, 105, 111, 110, 32, 97, 103, 97, 105, 110, 115, 116, 32, 97, 32, 107, 101, 121, 32, 104, 111, 108, 100, 105, 110, 103, 32, 116, 104, 101, 32, 119, 114, 111, 110, 103, 32, 107, 105, 110, 100, 32, 111, 102, 32, 118, 97, 108, 117, 101]
def mInt : List UInt8 := [69, 82, 82, 32, 118, 97, 108, 117, 101, 32, 105, 115, 32, 110, 111, 116, 32, 97, 110, 32, 105, 110, 116, 101, 103, 101, 114, 32, 111, 114, 32, 111, 117, 116, 32, 111, 102, 32, 114, 97, 110, 103, 101]
def mOver : List UInt8 := [69, 82, 82, 32, 105, 110, 99, 114, 101, 109, 101, 110, 116, 32, 111, 114, 32, 100, 101, 99, 114, 101, 109, 101, 110, 116, 32, 119, 111, 117, 108, 100, 32, 111, 118, 101, 114, 102, 108, 111, 119]
def eWrong : List UInt8 := err mWrong
def eInt : List UInt8 := err mInt
def eOver : List UInt8 := err mOver
/-- A text as a value. -/
def textV (s : List UInt8) : V := ⟨1, s, [], [], []⟩
/-- A row of words: the first one, small. -/
def nmL (L : List (List UInt8)) : List UInt8 := lowL (L.getD 0 [])
/-- The k-th word. -/
def wd (L : List (List UInt8)) (k : Nat) : List UInt8 := L.getD k []

end Go.Proofs.YtodpocciimbjbaaDoor.DoT
