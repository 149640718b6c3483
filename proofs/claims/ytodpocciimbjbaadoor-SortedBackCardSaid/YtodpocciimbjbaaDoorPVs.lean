/-
  Values with where they lie; copies of them.
-/
import Derived.Test.YtodpocciimbjbaaDoorValRowz
namespace Go.Proofs.YtodpocciimbjbaaDoor.StoT
open Go.RowKit Kit StrT RowG BOrd ValT
set_option linter.unusedVariables false
set_option maxRecDepth 100000

/-- A row stays where its block does. -/
theorem Rs.same {α : Type} {E : Enc α} {w w' : World} {q : Option Addr} {L : List α} (h : Rs E w q L) (hs : w.heap.size ≤ w'.heap.size) (hk : 0 < L.length → ∀ a, q = some a → w'.heap[a.block]? = w.heap[a.block]?) : Rs E w' q L := by
  intro h0
  obtain ⟨b, off, e, hlt, hc⟩ := h h0
  refine ⟨b, off, e, by omega, fun j hj => ?_⟩
  rw [← hc j hj]
  simp [World.cell?, hk h0 _ e]
/-- A value with where it lies. -/
structure PV where
  k : Int
  S : ByteArray
  ql : Option Addr
  nl : Nat
  cl : Nat
  qh : Option Addr
  nh : Nat
  ch : Nat
  qz : Option Addr
  nz : Nat
  cz : Nat
  d : V
def PV.In (w : World) (p : PV) : Prop := VIn w p.k p.S p.ql p.nl p.cl p.qh p.nh p.ch p.qz p.nz p.cz p.d
/-- The blocks in which it lies. -/
def PV.at_ (p : PV) (k : Nat) : Prop := (0 < p.d.l.length ∧ ∃ a, p.ql = some a ∧ a.block = k) ∨ (0 < p.d.h.length ∧ ∃ a, p.qh = some a ∧ a.block = k) ∨ (0 < p.d.z.length ∧ ∃ a, p.qz = some a ∧ a.block = k)
theorem PV.In.same {w w' : World} {p : PV} (h : p.In w) (hs : w.heap.size ≤ w'.heap.size) (hk : ∀ k, p.at_ k → w'.heap[k]? = w.heap[k]?) : p.In w' := by
  unfold PV.In at h ⊢
  exact { h with rl := Rs.same h.rl hs (fun h0 a ha => hk _ (Or.inl ⟨h0, a, ha, rfl⟩)), rh := Rs.same h.rh hs (fun h0 a ha => hk _ (Or.inr (Or.inl ⟨h0, a, ha, rfl⟩))), rz := Rs.same h.rz hs (fun h0 a ha => hk _ (Or.inr (Or.inr ⟨h0, a, ha, rfl⟩))) }
def PV.agg (p : PV) : Value := .agg #[.int .u8 p.k, .string p.S, .slice p.ql p.nl p.cl, .slice p.qh p.nh p.ch, .slice p.qz p.nz p.cz]
def pv0 : PV := ⟨0, ⟨#[]⟩, none, 0, 0, none, 0, 0, none, 0, 0, v0⟩
theorem pv0_in (w : World) : pv0.In w := ⟨rfl, by decide, rfl, Rs.nil _ _ _, Rs.nil _ _ _, Rs.nil _ _ _, rfl, rfl, rfl, by decide, by decide, by decide, by decide, by decide, by decide, by decide, by decide, by decide, fun _ => rfl, fun _ => rfl, fun _ => rfl⟩
theorem pv0_at (k : Nat) : ¬ pv0.at_ k := by
  unfold PV.at_ pv0
  simp
/-- A value that was answered in new memory. -/
theorem pv_of {base : Nat} {w : World} {v : Value} {d : V} (h : VAns base w v d) (hk : d.kind ≤ 255) (h1 : d.l.length ≤ 1048576) (h2 : d.h.length ≤ 1048576) (h3 : d.z.length ≤ 1048576) : ∃ p : PV, v = p.agg ∧ p.In w ∧ p.d = d ∧ p.k = (d.kind : Int) ∧ ∀ k, p.at_ k → base ≤ k ∧ k < w.heap.size := by
  obtain ⟨S, ql, cl, qh, ch, qz, cz, rfl, hV, b1, b2, b3⟩ := h.vin hk h1 h2 h3
  refine ⟨⟨(d.kind : Int), S, ql, _, cl, qh, _, ch, qz, _, cz, d⟩, rfl, hV, rfl, rfl, fun k hk => ?_⟩
  have lt : ∀ {α : Type} {E : Enc α} {q : Option Addr} {L : List α}, Rs E w q L → 0 < L.length → ∀ a, q = some a → a.block < w.heap.size := fun hR h0 a ha => by
    obtain ⟨b, off, e, hlt, -⟩ := hR h0
    rw [ha] at e
    injection e with e
    subst e
    exact hlt
  rcases hk with ⟨h0, a, ha, rfl⟩ | ⟨h0, a, ha, rfl⟩ | ⟨h0, a, ha, rfl⟩
  · exact ⟨b1 a ha, lt hV.rl h0 a ha⟩
  · exact ⟨b2 a ha, lt hV.rh h0 a ha⟩
  · exact ⟨b3 a ha, lt hV.rz h0 a ha⟩


end Go.Proofs.YtodpocciimbjbaaDoor.StoT
namespace Go.Proofs.YtodpocciimbjbaaDoor.LstT
open Go.RowKit Kit StrT RowG BOrd ValT StoT
set_option linter.unusedVariables false
set_option maxRecDepth 100000

/-- A value that was copied. -/
theorem pv_own {d : V} {w w' : World} {e : Ending} (h : OwnP d w e w') (hk : d.kind ≤ 255) (h1 : d.l.length ≤ 1048576) (h2 : d.h.length ≤ 1048576) (h3 : d.z.length ≤ 1048576) : ∃ p : PV, e = .returned p.agg ∧ p.In w' ∧ p.d = d ∧ (∀ k, p.at_ k → w.heap.size ≤ k ∧ k < w'.heap.size) ∧ Below w.heap.size w w' := by
  obtain ⟨S, vl, vh, vz, rfl, hS, ⟨ql, cl, rfl, a1, a2, a3, a4⟩, ⟨qh, ch, rfl, b1, b2, b3, b4⟩, ⟨qz, cz, rfl, c1, c2, c3, c4⟩, hb⟩ := h
  have rs : ∀ {α : Type} {E : Enc α} {q : Option Addr} {c : Nat} {L : List α}, (L = [] ∨ ∃ g, q = some ⟨g, 0, none⟩ ∧ w.heap.size ≤ g ∧ OwnB E w' g L.length c L) → Rs E w' q L ∧ (0 < L.length → ∀ a, q = some a → w.heap.size ≤ a.block ∧ a.block < w'.heap.size) := fun h => by
    rcases h with rfl | ⟨g, rfl, hg, ho⟩
    · exact ⟨Rs.nil _ _ _, fun h => absurd h (by simp)⟩
    · exact ⟨ho.rs, fun _ a e => by injection e with e; subst e; exact ⟨hg, ho.lt⟩⟩
  refine ⟨⟨(d.kind : Int), S, ql, _, cl, qh, _, ch, qz, _, cz, d⟩, rfl, ⟨rfl, hk, hS, (rs a4).1, (rs b4).1, (rs c4).1, rfl, rfl, rfl, h1, h2, h3, a1, b1, c1, a2, b2, c2, a3, b3, c3⟩, rfl, fun k hk => ?_, hb⟩
  rcases hk with ⟨h0, a, e, rfl⟩ | ⟨h0, a, e, rfl⟩ | ⟨h0, a, e, rfl⟩
  · exact (rs a4).2 h0 a e
  · exact (rs b4).2 h0 a e
  · exact (rs c4).2 h0 a e
theorem pv_sizes {w : World} {p : PV} (h : p.In w) : p.d.kind ≤ 255 ∧ p.d.l.length ≤ 1048576 ∧ p.d.h.length ≤ 1048576 ∧ p.d.z.length ≤ 1048576 := by
  unfold PV.In at h
  have h1 := h.ll
  have h2 := h.lh
  have h3 := h.lz
  have h4 := h.fl
  have h5 := h.fh
  have h6 := h.fz
  exact ⟨h.kb, by omega, by omega, by omega⟩


end Go.Proofs.YtodpocciimbjbaaDoor.LstT
