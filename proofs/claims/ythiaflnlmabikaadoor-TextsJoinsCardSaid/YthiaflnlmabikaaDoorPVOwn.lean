/-
  A copy of a value, with where it lies.
-/
import Derived.Test.YthiaflnlmabikaaDoorPV
import Derived.Test.YthiaflnlmabikaaDoorValOwn
namespace Go.Proofs.YthiaflnlmabikaaDoor.LstT
open Go.RowKit Kit StrT RowG BOrd ValT StoT
set_option linter.unusedVariables false
set_option maxRecDepth 100000

/-- A value that was copied. -/
theorem pv_own {d : V} {w w' : World} {e : Ending} (h : OwnP d w e w') (hk : d.kind ≤ 255) (h1 : d.l.length ≤ 1048576) (h2 : d.h.length ≤ 1048576) (h3 : d.z.length ≤ 1048576) : ∃ p : PV, e = .returned p.agg ∧ p.In w' ∧ p.d = d ∧ (∀ k, p.at_ k → w.heap.size ≤ k ∧ k < w'.heap.size) ∧ Below w.heap.size w w' := by
  obtain ⟨S, vl, vh, vz, rfl, hS, ⟨ql, cl, rfl, a1, a2, a3, a4⟩, ⟨qh, ch, rfl, b1, b2, b3, b4⟩, ⟨qz, cz, rfl, c1, c2, c3, c4⟩, hb⟩ := h
  have rs : ∀ {α : Type} {E : Enc α} {q : Option Addr} {c : Nat} {L : List α}, (L = [] ∨ ∃ g, q = some ⟨g, 0, none⟩ ∧ w.heap.size ≤ g ∧ OwnB E w' g L.length c L) → Rs E w' q L ∧ (0 < L.length → ∀ a, q = some a → w.heap.size ≤ a.block ∧ a.block < w'.heap.size) := fun h => by
    rcases h with rfl | ⟨g, rfl, hg, ho⟩
    · exact ⟨Rs.nil _ _ _, fun h => absurd h (by simp)⟩
    · exact ⟨ho.rs, fun _ a e => by injection e with e; subst e; exact ⟨hg, ho.lt⟩⟩
  refine ⟨⟨(d.kind : Int), S, ql, _, cl, qh, _, ch, qz, _, cz, d⟩, rfl, ⟨rfl, hk, hS, (rs a4).1, (rs b4).1, (rs c4).1, rfl, rfl, rfl, h1, h2, h3, a1, b1, c1, a2, b2, c2, a3, b3, c3⟩, rfl, fun k hk => ?_, hb⟩
  rcases hk with ⟨h0, a, e, rfl⟩ | ⟨h0, a, e, rfl⟩ | ⟨h0, a, e, rfl⟩
  · exact (rs a4).2 h0 a e
  · exact (rs b4).2 h0 a e
  · exact (rs c4).2 h0 a e
theorem pv_sizes {w : World} {p : PV} (h : p.In w) : p.d.kind ≤ 255 ∧ p.d.l.length ≤ 1048576 ∧ p.d.h.length ≤ 1048576 ∧ p.d.z.length ≤ 1048576 := by
  unfold PV.In at h
  have h1 := h.ll
  have h2 := h.lh
  have h3 := h.lz
  have h4 := h.fl
  have h5 := h.fh
  have h6 := h.fz
  exact ⟨h.kb, by omega, by omega, by omega⟩


end Go.Proofs.YthiaflnlmabikaaDoor.LstT
