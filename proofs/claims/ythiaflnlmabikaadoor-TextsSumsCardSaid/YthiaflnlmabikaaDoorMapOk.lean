/-
  A map of texts that a call makes out of constants: a look-up that also tells whether there is one.
-/
import Derived.Test.YthiaflnlmabikaaDoorMapLit
namespace Go.Proofs.YthiaflnlmabikaaDoor.MapT
open Go.RowKit Kit Go.MapKept
set_option linter.unusedVariables false
set_option maxRecDepth 100000

theorem lookup_ok {P : Program} {t k e : TypeId} (ht : P.underlying t = some (.map k e)) (hk : P.underlying k = some .string) {W : World} {b : Nat} {L : List (List UInt8 × Value)} (h : MapAt W b L) (T : ByteArray) (V : Value) (hV : ∀ Z, getM L T.data.toList Z = V) :
    (Instr.lookup t (.map (some b)) (.string T) true).run P W = .ok (.tuple #[V, .bool true]) W := by
  obtain ⟨es, clock, hh, hes⟩ := h
  obtain ⟨r, hr, hZ⟩ := find_lit T.data.toList es.toList L 0 hes
  have hr' : Instr.findNow .string (.string T) es.toList 0 = some r := hr
  cases r with
  | none =>
    have h1 := (hZ (.bool true)).trans (hV _)
    have h2 := (hZ (.bool false)).trans (hV _)
    have h3 : (Value.bool true) = .bool false := h1.trans h2.symm
    cases h3
  | some q =>
    have h1 : q.2 = V := (hZ (.bool true)).trans (hV _)
    subst h1
    simp [Instr.lookup, run_underlying ht, Go.MapKept.run_getObj_map hh, Go.MapKept.run_checkKey hk (d := .string) (k := .string T) trivial, Go.MapKept.run_findKey hk hr', Result.andThen]

end Go.Proofs.YthiaflnlmabikaaDoor.MapT
