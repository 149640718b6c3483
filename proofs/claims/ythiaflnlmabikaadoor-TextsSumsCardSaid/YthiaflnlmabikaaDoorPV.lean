/-
  Values with where they lie.
-/
import Derived.Test.YthiaflnlmabikaaDoorValRows
namespace Go.Proofs.YthiaflnlmabikaaDoor.StoT
open Go.RowKit Kit StrT RowG BOrd ValT
set_option linter.unusedVariables false
set_option maxRecDepth 100000

/-- A row stays where its block does. -/
theorem Rs.same {α : Type} {E : Enc α} {w w' : World} {q : Option Addr} {L : List α} (h : Rs E w q L) (hs : w.heap.size ≤ w'.heap.size) (hk : 0 < L.length → ∀ a, q = some a → w'.heap[a.block]? = w.heap[a.block]?) : Rs E w' q L := by
  intro h0
  obtain ⟨b, off, e, hlt, hc⟩ := h h0
  refine ⟨b, off, e, by omega, fun j hj => ?_⟩
  rw [← hc j hj]
  simp [World.cell?, hk h0 _ e]
/-- A value with where it lies. -/
structure PV where
  k : Int
  S : ByteArray
  ql : Option Addr
  nl : Nat
  cl : Nat
  qh : Option Addr
  nh : Nat
  ch : Nat
  qz : Option Addr
  nz : Nat
  cz : Nat
  d : V
def PV.In (w : World) (p : PV) : Prop := VIn w p.k p.S p.ql p.nl p.cl p.qh p.nh p.ch p.qz p.nz p.cz p.d
/-- The blocks in which it lies. -/
def PV.at_ (p : PV) (k : Nat) : Prop := (0 < p.d.l.length ∧ ∃ a, p.ql = some a ∧ a.block = k) ∨ (0 < p.d.h.length ∧ ∃ a, p.qh = some a ∧ a.block = k) ∨ (0 < p.d.z.length ∧ ∃ a, p.qz = some a ∧ a.block = k)
theorem PV.In.same {w w' : World} {p : PV} (h : p.In w) (hs : w.heap.size ≤ w'.heap.size) (hk : ∀ k, p.at_ k → w'.heap[k]? = w.heap[k]?) : p.In w' := by
  unfold PV.In at h ⊢
  exact { h with rl := Rs.same h.rl hs (fun h0 a ha => hk _ (Or.inl ⟨h0, a, ha, rfl⟩)), rh := Rs.same h.rh hs (fun h0 a ha => hk _ (Or.inr (Or.inl ⟨h0, a, ha, rfl⟩))), rz := Rs.same h.rz hs (fun h0 a ha => hk _ (Or.inr (Or.inr ⟨h0, a, ha, rfl⟩))) }
def PV.agg (p : PV) : Value := .agg #[.int .u8 p.k, .string p.S, .slice p.ql p.nl p.cl, .slice p.qh p.nh p.ch, .slice p.qz p.nz p.cz]
def pv0 : PV := ⟨0, ⟨#[]⟩, none, 0, 0, none, 0, 0, none, 0, 0, v0⟩
theorem pv0_in (w : World) : pv0.In w := ⟨rfl, by decide, rfl, Rs.nil _ _ _, Rs.nil _ _ _, Rs.nil _ _ _, rfl, rfl, rfl, by decide, by decide, by decide, by decide, by decide, by decide, by decide, by decide, by decide, fun _ => rfl, fun _ => rfl, fun _ => rfl⟩
theorem pv0_at (k : Nat) : ¬ pv0.at_ k := by
  unfold PV.at_ pv0
  simp
/-- A value that was answered in new memory. -/
theorem pv_of {base : Nat} {w : World} {v : Value} {d : V} (h : VAns base w v d) (hk : d.kind ≤ 255) (h1 : d.l.length ≤ 1048576) (h2 : d.h.length ≤ 1048576) (h3 : d.z.length ≤ 1048576) : ∃ p : PV, v = p.agg ∧ p.In w ∧ p.d = d ∧ p.k = (d.kind : Int) ∧ ∀ k, p.at_ k → base ≤ k ∧ k < w.heap.size := by
  obtain ⟨S, ql, cl, qh, ch, qz, cz, rfl, hV, b1, b2, b3⟩ := h.vin hk h1 h2 h3
  refine ⟨⟨(d.kind : Int), S, ql, _, cl, qh, _, ch, qz, _, cz, d⟩, rfl, hV, rfl, rfl, fun k hk => ?_⟩
  have lt : ∀ {α : Type} {E : Enc α} {q : Option Addr} {L : List α}, Rs E w q L → 0 < L.length → ∀ a, q = some a → a.block < w.heap.size := fun hR h0 a ha => by
    obtain ⟨b, off, e, hlt, -⟩ := hR h0
    rw [ha] at e
    injection e with e
    subst e
    exact hlt
  rcases hk with ⟨h0, a, ha, rfl⟩ | ⟨h0, a, ha, rfl⟩ | ⟨h0, a, ha, rfl⟩
  · exact ⟨b1 a ha, lt hV.rl h0 a ha⟩
  · exact ⟨b2 a ha, lt hV.rh h0 a ha⟩
  · exact ⟨b3 a ha, lt hV.rz h0 a ha⟩


end Go.Proofs.YthiaflnlmabikaaDoor.StoT
