/-
  What a store's own calls come to, of whatever store.
-/
import Derived.Test.YtbcjgkedlapmhaaStoRows
namespace Go.Proofs.Ytbcjgkedlapmhaa.StoT
open Go.RowKit Kit StrT RowG BOrd ValT
set_option linter.unusedVariables false
set_option maxRecDepth 100000

/-- A value that is answered out of a store. -/
def ToldV (St : World → Sd V → (Nat → Prop) → (Nat → Prop) → Prop) (w : World) (F R : Nat → Prop) (D' : Sd V) (d : V) (e : Ending) (w' : World) : Prop := ∃ p : PV, e = .returned p.agg ∧ p.In w' ∧ p.d = d ∧ ∃ F' R', St w' D' F' R' ∧ Off F w w' ∧ Gr w F F' ∧ Gr w R R' ∧ ∀ k, p.at_ k → R' k
/-- What a put leaves: the value's rows are the store's then. -/
def StepP (St : World → Sd V → (Nat → Prop) → (Nat → Prop) → Prop) (w : World) (F R Rp : Nat → Prop) (D' : Sd V) (w' : World) : Prop := ∃ F' R', St w' D' F' R' ∧ Off F w w' ∧ Gr w F F' ∧ Gr w (fun k => R k ∨ Rp k) R'
/-- What a store has after a put. -/
def putAny (k : List UInt8) (d : V) (D : Sd V) : Sd V := if d.kind = 0 then goneS k D else putS10 k d D

end Go.Proofs.Ytbcjgkedlapmhaa.StoT
