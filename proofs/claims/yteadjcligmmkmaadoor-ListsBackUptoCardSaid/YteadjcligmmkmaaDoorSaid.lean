/-
  Answers that are read as texts, in whatever world keeps them; regions that draw, written out in the text's order.
-/
import Derived.Test.YteadjcligmmkmaaDoorReplyRows
import Derived.OrdersHeld
import Derived.Deep.RegionHeld
namespace Go.Proofs.YteadjcligmmkmaaDoor.SaidT
open Go.RowKit Kit ReplyT ReplyMath BytesIn
set_option linter.unusedVariables false
set_option maxRecDepth 100000

def Said (w2 W : World) (N : Nat) (XS : ByteArray) (e : Ending) (w' : World) : Prop :=
  ∃ p c, e = .returned (.slice p N c) ∧ (∀ V, Below w'.heap.size w' V → (convert 29 9 (.slice p N c)).run Tryd.prog V = .ok (.string XS) V) ∧ Below w2.heap.size w2 w' ∧ Below W.heap.size W w' ∧ Below w'.heap.size w' w'
theorem said_of {w2 W : World} {l : List UInt8} {e : Ending} {w' : World} (h : Gives l W e w') (hW : Below w2.heap.size w2 W) (N : Nat) (hN : l.length = N) (XS : ByteArray) (hX : XS.data.toList = l) : Said w2 W N XS e w' := by
  subst hN
  obtain rfl : XS = ⟨l.toArray⟩ := same_bytes hX
  obtain ⟨v, rfl, ⟨p, c, rfl, hB, -⟩, hb⟩ := h
  exact ⟨p, c, rfl, fun V hV => bs_string (hB.keep hV) _ c rfl, hW.trans (hb.mono hW.size), hb, Below.refl _ _⟩
/-- A text, or another plain value, is answered. -/
def Plain (w2 W : World) (v : Value) (e : Ending) (w' : World) : Prop := e = .returned v ∧ Below w2.heap.size w2 w' ∧ Below W.heap.size W w' ∧ Below w'.heap.size w' w'
theorem plain_of {w2 W : World} {v : Value} {e : Ending} {w' : World} (he : e = .returned v) (hb : Below W.heap.size W w') (hW : Below w2.heap.size w2 W) : Plain w2 W v e w' := ⟨he, hW.trans (hb.mono hW.size), hb, Below.refl _ _⟩
theorem held_mono {P : Program} {md : Region.Mode} {ops : Array Oper} {Q : Exit → Act → World → Prop} {S S' : World → Prop} (h : ∀ w, S' w → S w) : ∀ (fuel : Nat) (listed : Array Bool) (a : Act) (w : World), wpAnyH P md ops Q S' fuel listed a w → wpAnyH P md ops Q S fuel listed a w
  | 0, _, _, _, H => H
  | fuel + 1, _, _, _, H => ⟨H.1, fun i hi => wpOp_mono (fun a' w' h' => ⟨h _ h'.1, held_mono h fuel _ a' w' h'.2⟩) (H.2 i hi)⟩


end Go.Proofs.YteadjcligmmkmaaDoor.SaidT
