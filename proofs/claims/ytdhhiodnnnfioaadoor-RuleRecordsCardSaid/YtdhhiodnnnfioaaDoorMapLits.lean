/-
  Maps of texts that a call makes out of constants: laid pair by pair, and looked up.
-/
import Derived.Test.YtdhhiodnnnfioaaDoorKit
import Derived.MapKept
import Derived.Carry
import Derived.OwnWalk
namespace Go.Proofs.YtdhhiodnnnfioaaDoor.MapT
open Go.RowKit Kit Go.MapKept
set_option linter.unusedVariables false
set_option maxRecDepth 100000

/-- Block b is a map of just these pairs, in their order. -/
def MapAt (w : World) (b : Nat) (L : List (List UInt8 × Value)) : Prop :=
  ∃ es clock, w.heap[b]? = some (.map es clock) ∧ es.toList.map (fun e => (e.key, e.val)) = L.map (fun p => (.string ⟨p.1.toArray⟩, p.2))
theorem MapAt.new (w : World) : MapAt (w.alloc (.map #[] 0)) w.heap.size [] := ⟨#[], 0, (heap_alloc w _).1, rfl⟩
theorem MapAt.lt {w : World} {b : Nat} {L : List (List UInt8 × Value)} (h : MapAt w b L) : b < w.heap.size := by
  obtain ⟨es, clock, hb, _⟩ := h
  exact (Array.getElem?_eq_some_iff.1 hb).1
theorem MapAt.keep {w w' : World} {b : Nat} {L : List (List UInt8 × Value)} (h : MapAt w b L) (hb : Below w.heap.size w w') : MapAt w' b L := by
  have hlt := h.lt
  obtain ⟨es, clock, hh, h2⟩ := h
  exact ⟨es, clock, (hb.block b hlt).trans hh, h2⟩
theorem MapAt.drew {w : World} {b : Nat} {L : List (List UInt8 × Value)} (h : MapAt w b L) : MapAt w.drew b L := h
theorem map_keys {es : List MapEntry} {L : List (List UInt8 × Value)} (h : es.map (fun e => (e.key, e.val)) = L.map (fun p => (.string ⟨p.1.toArray⟩, p.2))) : ∀ x ∈ es, ∃ p ∈ L, x.key = .string ⟨p.1.toArray⟩ ∧ x.val = p.2 := by
  intro x hx
  have h1 : (x.key, x.val) ∈ L.map (fun p => ((.string ⟨p.1.toArray⟩ : Value), p.2)) := by
    rw [← h]
    exact List.mem_map.2 ⟨x, hx, rfl⟩
  obtain ⟨p, hp, e⟩ := List.mem_map.1 h1
  injection e with e1 e2
  exact ⟨p, hp, e1.symm, e2.symm⟩
theorem key_same {a b : List UInt8} (h : (Value.string ⟨a.toArray⟩) = .string ⟨b.toArray⟩) : a = b := by
  injection h with h
  injection h with h
  simpa using congrArg Array.toList h

theorem below_mapped {B : Nat} {w0 w : World} (h : Below B w0 w) {b : Nat} (hB : B ≤ b) (o : Obj) : Below B w0 { w with heap := w.heap.setIfInBounds b o } :=
  h.trans ⟨rfl, rfl, rfl, by simp, fun k hk => by simp [show ¬ b = k by omega]⟩

/-- One pair more, at a key that is not there. -/
theorem wpList_insert_lit {P : Program} {w0 w : World} {ops : Array Oper} {rest : List Oper} {o : Oper} {a : Act} {Q : Exit → Act → World → Prop} (hgd : o.guard = none) (t : TypeId) (m v : Operand) (S : ByteArray) (ho : o.op = .insert t m (.const (.string S)) v)
    (k e : TypeId) (ht : P.underlying t = some (.map k e)) (hk : P.underlying k = some .string) (B b : Nat) (hm : a.eval m = .map (some b)) (L : List (List UInt8 × Value)) (i : Nat) (h : MapAt w b (L.take i)) (hnd : (L.map (·.1)).Nodup)
    (hb : Below B w0 w) (hB : B ≤ b) (hi : L[i]? = some (S.data.toList, a.eval v))
    (hK : ∀ w', MapAt w' b (L.take (i + 1)) → Below B w0 w' → wpList P ops Q rest (a.put o.dst undef) w') : wpList P ops Q (o :: rest) a w := by
  refine wpList_plain hgd fun K hK' => ?_
  obtain ⟨V, hv⟩ : ∃ V, V = a.eval v := ⟨_, rfl⟩
  rw [← hv] at hi
  have hx : a.eval (.const (.string S)) = .string S := rfl
  obtain ⟨es, clock, hh, hes⟩ := h
  obtain ⟨hil, hie⟩ := List.getElem?_eq_some_iff.1 hi
  have hks : ∀ y ∈ es.toList, IsKey .string y.key := fun y hy => by
    obtain ⟨p, _, e1, _⟩ := map_keys hes y hy
    rw [e1]
    trivial
  have hnew : ∀ y ∈ es.toList, y.key ≠ .string S := fun y hy hS => by
    obtain ⟨p, hp, e1, _⟩ := map_keys hes y hy
    have e2 : p.1 = S.data.toList := key_same (e1.symm.trans hS)
    obtain ⟨j, hj, hpj⟩ := List.getElem_of_mem hp
    rw [List.length_take] at hj
    rw [List.getElem_take] at hpj
    have := List.pairwise_iff_getElem.1 hnd j i (by rw [List.length_map]; omega) (by rw [List.length_map]; exact hil) (by omega)
    apply this
    rw [List.getElem_map, List.getElem_map, hpj, hie, e2]
  rcases findNow_spec (d := .string) (k := .string S) trivial es.toList 0 hks with ⟨h1, h2⟩ | ⟨j, e0, h1, h2, h3⟩
  · unfold Oper.wp
    have hrun : (Instr.mapUpdate t (.map (some b)) (.string S) V).run P w = .ok () { w with heap := w.heap.setIfInBounds b (.map (es.push { key := .string S, val := V, born := clock }) (clock + 1)) } := by
      simp [Instr.mapUpdate, run_underlying ht, Go.MapKept.run_getObj_map hh, Go.MapKept.run_checkKey hk (d := .string) (k := .string S) trivial, Go.MapKept.run_findKey hk h1, Go.MapKept.run_setObj_map _ hh, Result.andThen]
    simp [execOp, ho, hm, hx, ← hv, hrun, Result.andThen]
    refine hK' _ _ (hK _ ⟨_, _, (heap_set hh).1, ?_⟩ (below_mapped hb hB _))
    rw [List.take_succ_eq_append_getElem hil, List.map_append, Array.toList_push, List.map_append, hes, hie]
    rfl
  · exact absurd h3 (hnew e0 (List.mem_of_getElem? h2))

/-- What is at a key. -/
def getM (L : List (List UInt8 × Value)) (k : List UInt8) (Z : Value) : Value := match L.find? (fun p => decide (p.1 = k)) with | some p => p.2 | none => Z
theorem find_lit (k : List UInt8) : ∀ (es : List MapEntry) (L : List (List UInt8 × Value)) (i : Nat), es.map (fun e => (e.key, e.val)) = L.map (fun p => (.string ⟨p.1.toArray⟩, p.2)) →
    ∃ r, Instr.findNow .string (.string ⟨k.toArray⟩) es i = some r ∧ ∀ Z, (match r with | some (_, v) => v | none => Z) = getM L k Z
  | [], [], _, _ => ⟨none, rfl, fun _ => rfl⟩
  | [], _ :: _, _, h => by simp at h
  | _ :: _, [], _, h => by simp at h
  | e :: es, p :: L, i, h => by
    rw [List.map_cons, List.map_cons] at h
    injection h with h1 h2
    injection h1 with h3 h4
    obtain ⟨r, hr, hiff⟩ := sameNow_of_keys (d := .string) (a := .string ⟨k.toArray⟩) (b := e.key) trivial (by rw [h3]; trivial)
    cases r with
    | true =>
      have e1 : k = p.1 := key_same ((hiff.1 rfl).trans h3)
      exact ⟨some (i, e.val), by simp [Instr.findNow, hr], fun Z => by simp [getM, e1, h4]⟩
    | false =>
      have e1 : ¬ p.1 = k := fun h => by
        have := hiff.2 (by rw [h3, h])
        cases this
      obtain ⟨r, hr2, hz⟩ := find_lit k es L (i + 1) h2
      refine ⟨r, by simp [Instr.findNow, hr, hr2], fun Z => ?_⟩
      rw [hz Z]
      simp [getM, e1]
/-- A look-up. -/
theorem lookup_lit {P : Program} {t k e : TypeId} (ht : P.underlying t = some (.map k e)) (hk : P.underlying k = some .string) {W : World} {b : Nat} {L : List (List UInt8 × Value)} (h : MapAt W b L) (T : ByteArray) (Z : Value) (hz : (zeroValue e).run P W = .ok Z W) :
    (Instr.lookup t (.map (some b)) (.string T) false).run P W = .ok (getM L T.data.toList Z) W := by
  obtain ⟨es, clock, hh, hes⟩ := h
  obtain ⟨r, hr, hZ⟩ := find_lit T.data.toList es.toList L 0 hes
  have hr' : Instr.findNow .string (.string T) es.toList 0 = some r := hr
  rw [← hZ Z]
  cases r with
  | none => simp [Instr.lookup, run_underlying ht, Go.MapKept.run_getObj_map hh, Go.MapKept.run_checkKey hk (d := .string) (k := .string T) trivial, Go.MapKept.run_findKey hk hr', hz, Result.andThen]
  | some q => simp [Instr.lookup, run_underlying ht, Go.MapKept.run_getObj_map hh, Go.MapKept.run_checkKey hk (d := .string) (k := .string T) trivial, Go.MapKept.run_findKey hk hr', Result.andThen]

end Go.Proofs.YtdhhiodnnnfioaaDoor.MapT
namespace Go.Proofs.YtdhhiodnnnfioaaDoor.MapT
open Go.RowKit Kit Go.MapKept
set_option linter.unusedVariables false
set_option maxRecDepth 100000

theorem lookup_ok {P : Program} {t k e : TypeId} (ht : P.underlying t = some (.map k e)) (hk : P.underlying k = some .string) {W : World} {b : Nat} {L : List (List UInt8 × Value)} (h : MapAt W b L) (T : ByteArray) (V : Value) (hV : ∀ Z, getM L T.data.toList Z = V) :
    (Instr.lookup t (.map (some b)) (.string T) true).run P W = .ok (.tuple #[V, .bool true]) W := by
  obtain ⟨es, clock, hh, hes⟩ := h
  obtain ⟨r, hr, hZ⟩ := find_lit T.data.toList es.toList L 0 hes
  have hr' : Instr.findNow .string (.string T) es.toList 0 = some r := hr
  cases r with
  | none =>
    have h1 := (hZ (.bool true)).trans (hV _)
    have h2 := (hZ (.bool false)).trans (hV _)
    have h3 : (Value.bool true) = .bool false := h1.trans h2.symm
    cases h3
  | some q =>
    have h1 : q.2 = V := (hZ (.bool true)).trans (hV _)
    subst h1
    simp [Instr.lookup, run_underlying ht, Go.MapKept.run_getObj_map hh, Go.MapKept.run_checkKey hk (d := .string) (k := .string T) trivial, Go.MapKept.run_findKey hk hr', Result.andThen]

end Go.Proofs.YtdhhiodnnnfioaaDoor.MapT
