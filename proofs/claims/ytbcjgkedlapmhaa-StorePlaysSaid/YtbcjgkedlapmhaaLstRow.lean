/-
  The landed store of layer 10 as it lies in memory: its time, and four maps that are all nil, or all there.
-/
import Derived.Test.YtbcjgkedlapmhaaMapF
import Derived.Test.YtbcjgkedlapmhaaStoOps
import Derived.Test.YtbcjgkedlapmhaaValOwn
namespace Go.Proofs.Ytbcjgkedlapmhaa.LstT
open Go.RowKit Kit StrT RowG BOrd ValT StoT MapF
set_option linter.unusedVariables false
set_option maxRecDepth 100000

/-- The five parts of a store. -/
structure SC (w : World) (s : Nat) (t : Int) (mv md mh mc : Option Nat) : Prop where
  lt : s < w.heap.size
  hp : w.heap[s]? = some (.cells #[.int .i64 t, .map mv, .map md, .map mh, .map mc] 63 (0, 0))
  c0 : w.cell? ⟨s, 0, none⟩ = some (.int .i64 t)
  c1 : w.cell? ⟨s, 1, none⟩ = some (.map mv)
  c2 : w.cell? ⟨s, 2, none⟩ = some (.map md)
  c3 : w.cell? ⟨s, 3, none⟩ = some (.map mh)
  c4 : w.cell? ⟨s, 4, none⟩ = some (.map mc)
  f : ∀ j, w.frozen? ⟨s, j, none⟩ = false
theorem SC.of {w : World} {s : Nat} {t : Int} {mv md mh mc : Option Nat} (hp : w.heap[s]? = some (.cells #[.int .i64 t, .map mv, .map md, .map mh, .map mc] 63 (0, 0))) : SC w s t mv md mh mc := by
  refine ⟨(Array.getElem?_eq_some_iff.1 hp).1, hp, ?_, ?_, ?_, ?_, ?_, fun j => frozen_of_row _ _ _ _ 63 hp⟩ <;> (rw [cell_of_row _ _ _ _ 63 _ hp]; rfl)
theorem SC.same {w w' : World} {s : Nat} {t : Int} {mv md mh mc : Option Nat} (h : SC w s t mv md mh mc) (hk : w'.heap[s]? = w.heap[s]?) : SC w' s t mv md mh mc := SC.of (hk.trans h.hp)
/-- All maps are nil, or none is and each has a block of its own. -/
def Al (s : Nat) (mv md mh mc : Option Nat) : Prop := (mv = none ∧ md = none ∧ mh = none ∧ mc = none) ∨
  ∃ a b c d, mv = some a ∧ md = some b ∧ mh = some c ∧ mc = some d ∧ s ≠ a ∧ s ≠ b ∧ s ≠ c ∧ s ≠ d ∧ a ≠ b ∧ a ≠ c ∧ a ≠ d ∧ b ≠ c ∧ b ≠ d ∧ c ≠ d
/-- The blocks of a store. -/
def FL (s : Nat) (mv md mh mc : Option Nat) (k : Nat) : Prop := k = s ∨ mv = some k ∨ md = some k ∨ mh = some k ∨ mc = some k
def eI (x : Int) : Value := .int .i64 x
def eU (x : Unit) : Value := .agg #[]
def eN (x : Nat) : Value := .int .i64 (x : Int)
/-- What is known of a store: what each key has, its deadline, what is held, and how often something became of it. -/
structure LR (w : World) (s : Nat) (mv md mh mc : Option Nat) (t : Int) (P : List UInt8 → Option PV) (U : List UInt8 → Option Int) (H : List UInt8 → Option Unit) (C : List UInt8 → Option Nat) (n : Nat) : Prop where
  sc : SC w s t mv md mh mc
  v : MO PV.agg w mv P n
  d : MO eI w md U n
  h : MO eU w mh H n
  c : MO eN w mc C n
  al : Al s mv md mh mc
section
variable {w w' : World} {s : Nat} {mv md mh mc : Option Nat} {t : Int} {P P' : List UInt8 → Option PV} {U U' : List UInt8 → Option Int} {H H' : List UInt8 → Option Unit} {C C' : List UInt8 → Option Nat} {n k : Nat}
theorem LR.lt (h : LR w s mv md mh mc t P U H C n) : ∀ k, FL s mv md mh mc k → k < w.heap.size := by
  rintro k (rfl | hk | hk | hk | hk)
  · exact h.sc.lt
  · exact h.v.lt k hk
  · exact h.d.lt k hk
  · exact h.h.lt k hk
  · exact h.c.lt k hk
theorem LR.same (h : LR w s mv md mh mc t P U H C n) (hk : ∀ k, FL s mv md mh mc k → w'.heap[k]? = w.heap[k]?) : LR w' s mv md mh mc t P U H C n :=
  ⟨h.sc.same (hk s (Or.inl rfl)), h.v.same (fun b e => hk b (Or.inr (Or.inl e))), h.d.same (fun b e => hk b (Or.inr (Or.inr (Or.inl e)))), h.h.same (fun b e => hk b (Or.inr (Or.inr (Or.inr (Or.inl e))))), h.c.same (fun b e => hk b (Or.inr (Or.inr (Or.inr (Or.inr e))))), h.al⟩
theorem LR.keep (h : LR w s mv md mh mc t P U H C n) (hb : Below w.heap.size w w') : LR w' s mv md mh mc t P U H C n := h.same fun k hk => hb.block k (h.lt k hk)
theorem LR.mono (h : LR w s mv md mh mc t P U H C n) (hk : n ≤ k) : LR w s mv md mh mc t P U H C k := ⟨h.sc, h.v.mono hk, h.d.mono hk, h.h.mono hk, h.c.mono hk, h.al⟩
theorem LR.congr (h : LR w s mv md mh mc t P U H C n) (h1 : ∀ x, P x = P' x) (h2 : ∀ x, U x = U' x) (h3 : ∀ x, H x = H' x) (h4 : ∀ x, C x = C' x) : LR w s mv md mh mc t P' U' H' C' n := ⟨h.sc, h.v.congr h1, h.d.congr h2, h.h.congr h3, h.c.congr h4, h.al⟩
theorem turn_ne {m m2 : Option Nat} (h : TO w w' m) (hk : ∀ b, m2 = some b → m ≠ some b) : ∀ b, m2 = some b → w'.heap[b]? = w.heap[b]? := fun b hb => h.other b (hk b hb)
theorem al_ne (h : Al s mv md mh mc) : (mv ≠ some s ∧ md ≠ some s ∧ mh ≠ some s ∧ mc ≠ some s) ∧ (∀ b, mv = some b → md ≠ some b ∧ mh ≠ some b ∧ mc ≠ some b) ∧ (∀ b, md = some b → mv ≠ some b ∧ mh ≠ some b ∧ mc ≠ some b) ∧ (∀ b, mh = some b → mv ≠ some b ∧ md ≠ some b ∧ mc ≠ some b) ∧ (∀ b, mc = some b → mv ≠ some b ∧ md ≠ some b ∧ mh ≠ some b) := by
  rcases h with ⟨rfl, rfl, rfl, rfl⟩ | ⟨a, b, c, d, rfl, rfl, rfl, rfl, h1, h2, h3, h4, h5, h6, h7, h8, h9, h10⟩
  · simp
  · simp only [ne_eq, Option.some.injEq]
    refine ⟨⟨by omega, by omega, by omega, by omega⟩, ?_, ?_, ?_, ?_⟩ <;> rintro _ rfl <;> refine ⟨by omega, by omega, by omega⟩
theorem LR.turnV (h : LR w s mv md mh mc t P U H C n) (ht : TO w w' mv) (hm : MO PV.agg w' mv P' k) (hk : n ≤ k) : LR w' s mv md mh mc t P' U H C k := by
  obtain ⟨n0, n1, n2, n3, n4⟩ := al_ne h.al
  exact ⟨h.sc.same (ht.other s n0.1), hm, (h.d.same (fun b e => ht.other b (n2 b e).1)).mono hk, (h.h.same (fun b e => ht.other b (n3 b e).1)).mono hk, (h.c.same (fun b e => ht.other b (n4 b e).1)).mono hk, h.al⟩
theorem LR.turnD (h : LR w s mv md mh mc t P U H C n) (ht : TO w w' md) (hm : MO eI w' md U' k) (hk : n ≤ k) : LR w' s mv md mh mc t P U' H C k := by
  obtain ⟨n0, n1, n2, n3, n4⟩ := al_ne h.al
  exact ⟨h.sc.same (ht.other s n0.2.1), (h.v.same (fun b e => ht.other b (n1 b e).1)).mono hk, hm, (h.h.same (fun b e => ht.other b (n3 b e).2.1)).mono hk, (h.c.same (fun b e => ht.other b (n4 b e).2.1)).mono hk, h.al⟩
theorem LR.turnH (h : LR w s mv md mh mc t P U H C n) (ht : TO w w' mh) (hm : MO eU w' mh H' k) (hk : n ≤ k) : LR w' s mv md mh mc t P U H' C k := by
  obtain ⟨n0, n1, n2, n3, n4⟩ := al_ne h.al
  exact ⟨h.sc.same (ht.other s n0.2.2.1), (h.v.same (fun b e => ht.other b (n1 b e).2.1)).mono hk, (h.d.same (fun b e => ht.other b (n2 b e).2.1)).mono hk, hm, (h.c.same (fun b e => ht.other b (n4 b e).2.2)).mono hk, h.al⟩
theorem LR.turnC (h : LR w s mv md mh mc t P U H C n) (ht : TO w w' mc) (hm : MO eN w' mc C' k) (hk : n ≤ k) : LR w' s mv md mh mc t P U H C' k := by
  obtain ⟨n0, n1, n2, n3, n4⟩ := al_ne h.al
  exact ⟨h.sc.same (ht.other s n0.2.2.2), (h.v.same (fun b e => ht.other b (n1 b e).2.2)).mono hk, (h.d.same (fun b e => ht.other b (n2 b e).2.2)).mono hk, (h.h.same (fun b e => ht.other b (n3 b e).2.2)).mono hk, hm, h.al⟩
/-- The time is set. -/
theorem LR.time (h : LR w s mv md mh mc t P U H C n) (t' : Int) : LR (w.setCell ⟨s, 0, none⟩ (.int .i64 t')) s mv md mh mc t' P U H C n := by
  obtain ⟨n0, n1, n2, n3, n4⟩ := al_ne h.al
  have ho : ∀ m : Option Nat, m ≠ some s → ∀ b, m = some b → (w.setCell ⟨s, 0, none⟩ (.int .i64 t')).heap[b]? = w.heap[b]? := fun m hm b e => heap_setCell_other _ _ _ _ (fun e2 => hm (by rw [e, e2]))
  exact ⟨SC.of (heap_setCell_same _ _ 0 _ _ _ h.sc.hp), h.v.same (ho _ n0.1), h.d.same (ho _ n0.2.1), h.h.same (ho _ n0.2.2.1), h.c.same (ho _ n0.2.2.2), h.al⟩
theorem off_to {m : Option Nat} {F : Nat → Prop} (h : TO w w' m) (hm : ∀ b, m = some b → F b) : Off F w w' :=
  ⟨h.os.1, h.os.2.1, h.os.2.2, Nat.le_of_eq h.size.symm, fun k _ hF => h.other k (fun e => hF (hm k e))⟩
theorem flV : ∀ b, mv = some b → FL s mv md mh mc b := fun b e => Or.inr (Or.inl e)
theorem flD : ∀ b, md = some b → FL s mv md mh mc b := fun b e => Or.inr (Or.inr (Or.inl e))
theorem flH : ∀ b, mh = some b → FL s mv md mh mc b := fun b e => Or.inr (Or.inr (Or.inr (Or.inl e)))
theorem flC : ∀ b, mc = some b → FL s mv md mh mc b := fun b e => Or.inr (Or.inr (Or.inr (Or.inr e)))
theorem Off.on {F : Nat → Prop} {w'' : World} (h : Off F w w') (h' : Off F w' w'') : Off F w w'' := h.trans h' (Gr.refl _ _)
theorem off_cell {F : Nat → Prop} (b o : Nat) (v : Value) (hb : F b) : Off F w (w.setCell ⟨b, o, none⟩ v) := by
  have h := (Below.refl b w).setCell (p := ⟨b, o, none⟩) (Nat.le_refl _) v
  exact ⟨h.os, h.tape, h.output, h.size, fun k _ hF => heap_setCell_other _ _ _ _ (fun e => hF (by rw [show k = b from e]; exact hb))⟩
/-- Where a map is not nil, none is. -/
theorem al_some {b : Nat} (h : Al s mv md mh mc) (hb : mv = some b) : ∃ a b c d, mv = some a ∧ md = some b ∧ mh = some c ∧ mc = some d := by
  rcases h with ⟨rfl, -⟩ | ⟨a, b, c, d, h1, h2, h3, h4, -⟩
  · cases hb
  · exact ⟨a, b, c, d, h1, h2, h3, h4⟩
theorem al_someD {b : Nat} (h : Al s mv md mh mc) (hb : md = some b) : ∃ a b c d, mv = some a ∧ md = some b ∧ mh = some c ∧ mc = some d := by
  rcases h with ⟨-, rfl, -⟩ | ⟨a, b, c, d, h1, h2, h3, h4, -⟩
  · cases hb
  · exact ⟨a, b, c, d, h1, h2, h3, h4⟩
end
/-- A value that was copied. -/
theorem pv_own {d : V} {w w' : World} {e : Ending} (h : OwnP d w e w') (hk : d.kind ≤ 255) (h1 : d.l.length ≤ 1048576) (h2 : d.h.length ≤ 1048576) (h3 : d.z.length ≤ 1048576) : ∃ p : PV, e = .returned p.agg ∧ p.In w' ∧ p.d = d ∧ (∀ k, p.at_ k → w.heap.size ≤ k ∧ k < w'.heap.size) ∧ Below w.heap.size w w' := by
  obtain ⟨S, vl, vh, vz, rfl, hS, ⟨ql, cl, rfl, a1, a2, a3, a4⟩, ⟨qh, ch, rfl, b1, b2, b3, b4⟩, ⟨qz, cz, rfl, c1, c2, c3, c4⟩, hb⟩ := h
  have rs : ∀ {α : Type} {E : Enc α} {q : Option Addr} {c : Nat} {L : List α}, (L = [] ∨ ∃ g, q = some ⟨g, 0, none⟩ ∧ w.heap.size ≤ g ∧ OwnB E w' g L.length c L) → Rs E w' q L ∧ (0 < L.length → ∀ a, q = some a → w.heap.size ≤ a.block ∧ a.block < w'.heap.size) := fun h => by
    rcases h with rfl | ⟨g, rfl, hg, ho⟩
    · exact ⟨Rs.nil _ _ _, fun h => absurd h (by simp)⟩
    · exact ⟨ho.rs, fun _ a e => by injection e with e; subst e; exact ⟨hg, ho.lt⟩⟩
  refine ⟨⟨(d.kind : Int), S, ql, _, cl, qh, _, ch, qz, _, cz, d⟩, rfl, ⟨rfl, hk, hS, (rs a4).1, (rs b4).1, (rs c4).1, rfl, rfl, rfl, h1, h2, h3, a1, b1, c1, a2, b2, c2, a3, b3, c3⟩, rfl, fun k hk => ?_, hb⟩
  rcases hk with ⟨h0, a, e, rfl⟩ | ⟨h0, a, e, rfl⟩ | ⟨h0, a, e, rfl⟩
  · exact (rs a4).2 h0 a e
  · exact (rs b4).2 h0 a e
  · exact (rs c4).2 h0 a e
theorem pv_sizes {w : World} {p : PV} (h : p.In w) : p.d.kind ≤ 255 ∧ p.d.l.length ≤ 1048576 ∧ p.d.h.length ≤ 1048576 ∧ p.d.z.length ≤ 1048576 := by
  unfold PV.In at h
  have h1 := h.ll
  have h2 := h.lh
  have h3 := h.lz
  have h4 := h.fl
  have h5 := h.fh
  have h6 := h.fz
  exact ⟨h.kb, by omega, by omega, by omega⟩

end Go.Proofs.Ytbcjgkedlapmhaa.LstT
