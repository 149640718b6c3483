/-
  What a request of a value leaves in memory: the value and the reply.
-/
import Derived.Test.YteadjcligmmkmaaDoorPVs
import Derived.Test.YteadjcligmmkmaaDoorReplyRows
import Derived.Test.YteadjcligmmkmaaDoorLandOwns
namespace Go.Proofs.YteadjcligmmkmaaDoor.DoT
open Go.RowKit Kit StrT RowG BOrd ValT StoT ReplyT ReplyMath ValM BytesIn
set_option linter.unusedVariables false
set_option maxRecDepth 100000

/-- A value whose rows lie in the blocks R, or in new ones, and a reply, are answered. -/
def DoP (R : Nat → Prop) (d : V) (l : List UInt8) (w : World) (e : Ending) (w' : World) : Prop :=
  ∃ (p : PV) (vr : Value), e = .returned (.tuple #[p.agg, vr]) ∧ p.In w' ∧ p.d = d ∧ (∀ j, p.at_ j → R j ∨ w.heap.size ≤ j) ∧ Ans w.heap.size w' vr l ∧ Below w.heap.size w w'
theorem Bs.same {w w' : World} {p : Option Addr} {l : List UInt8} (h : Bs w p l) (hs : w.heap.size ≤ w'.heap.size) (hk : 0 < l.length → ∀ a, p = some a → w'.heap[a.block]? = w.heap[a.block]?) : Bs w' p l := by
  intro h0
  obtain ⟨b, off, e, hlt, hc⟩ := h h0
  refine ⟨b, off, e, by omega, fun j hj => ?_⟩
  rw [← hc j hj]
  simp [World.cell?, hk h0 _ e]
theorem ans_high {base : Nat} {w w' : World} {v : Value} {l : List UInt8} (h : Ans base w v l) (hs : w.heap.size ≤ w'.heap.size) (hk : ∀ j, base ≤ j → w'.heap[j]? = w.heap[j]?) : Ans base w' v l := by
  obtain ⟨p, c, hv, hB, hge, h1⟩ := h
  exact ⟨p, c, hv, Bs.same hB hs (fun _ a ha => hk _ (hge a ha)), hge, h1⟩
/-- The two blocks that a function of a value makes first: what it was given, its answer. -/
structure DB (w W : World) (x z : Array Value) : Prop where
  bx : W.heap[w.heap.size]? = some (.cells x 26 (0, 0))
  re : W.heap[w.heap.size + 1]? = some (.cells z 26 (0, 0))
  bl : Below w.heap.size w W
  sz : w.heap.size + 1 + 1 ≤ W.heap.size
theorem DB.new (w : World) (x z : Array Value) : DB w ((w.alloc (.cells x 26)).alloc (.cells z 26)) x z where
  bx := by
    rw [Below.heap_alloc _ _ _ (by simp)]
    exact heap_alloc_last w _
  re := by
    have h := heap_alloc_last (w.alloc (.cells x 26)) (.cells z 26)
    simpa using h
  bl := ((Below.refl _ _).alloc (Nat.le_refl _) _).alloc (by simp) _
  sz := by simp
theorem DB.keep {w W W' : World} {x z : Array Value} (h : DB w W x z) (hb : Below W.heap.size W W') : DB w W' x z where
  bx := by rw [hb.block _ (by have := h.sz; omega)]; exact h.bx
  re := by rw [hb.block _ (by have := h.sz; omega)]; exact h.re
  bl := h.bl.trans (hb.mono (by have := h.sz; omega))
  sz := Nat.le_trans h.sz hb.size
theorem DB.drew {w W : World} {x z : Array Value} (h : DB w W x z) : DB w W.drew x z := ⟨h.bx, h.re, h.bl.drew, h.sz⟩
theorem DB.setBox {w W : World} {x z : Array Value} (h : DB w W x z) (y : Array Value) : DB w (W.setRow w.heap.size y) y z where
  bx := setRow_heap W w.heap.size _ _ _ _ h.bx
  re := by rw [setRow_other _ _ _ _ (by omega)]; exact h.re
  bl := below_setRow h.bl (Nat.le_refl _) _
  sz := by simpa using h.sz
theorem DB.room {w W : World} {x0 x1 x2 x3 x4 : Value} {z : Array Value} (h : DB w W #[x0, x1, x2, x3, x4] z) : VCells W w.heap.size x0 x1 x2 x3 x4 := VCells.of h.bx
theorem DB.roomR {w W : World} {z0 z1 z2 z3 z4 : Value} {x : Array Value} (h : DB w W x #[z0, z1, z2, z3, z4]) : VCells W (w.heap.size + 1) z0 z1 z2 z3 z4 := VCells.of h.re
theorem pv_lt {w : World} {p : PV} (h : p.In w) : ∀ j, p.at_ j → j < w.heap.size := by
  unfold PV.In at h
  intro j hj
  have lt : ∀ {α : Type} {E : Enc α} {q : Option Addr} {L : List α}, Rs E w q L → 0 < L.length → ∀ a, q = some a → a.block < w.heap.size := fun hR h0 a ha => by
    obtain ⟨b, off, e, hlt, -⟩ := hR h0
    rw [ha] at e
    injection e with e
    subst e
    exact hlt
  rcases hj with ⟨h0, a, ha, rfl⟩ | ⟨h0, a, ha, rfl⟩ | ⟨h0, a, ha, rfl⟩
  · exact lt h.rl h0 a ha
  · exact lt h.rh h0 a ha
  · exact lt h.rz h0 a ha
/-- The answer is stored: whatever way it is, it is the block behind the first one alone that turns. -/
theorem do_end {w W W' : World} {x z : Array Value} (h : DB w W x z) (p : PV) (R : Nat → Prop) (base : Nat) (d : V) (l : List UInt8) (vr : Value) (hp : p.In W) (hd : p.d = d) (hb : ∀ j, p.at_ j → R j ∨ w.heap.size ≤ j) (hne : ∀ j, p.at_ j → j ≠ w.heap.size + 1) (hA : Ans base W vr l) (hbase : w.heap.size + 1 < base)
    (hW : Below w.heap.size w W') (hs : W.heap.size ≤ W'.heap.size) (ho : ∀ j, j ≠ w.heap.size + 1 → W'.heap[j]? = W.heap[j]?) : DoP R d l w (.returned (.tuple #[p.agg, vr])) W' :=
  ⟨p, vr, rfl, hp.same hs (fun j hj => ho j (hne j hj)), hd, hb, (ans_high hA hs (fun j hj => ho j (by omega))).base (by omega), hW⟩
theorem do_five {w W : World} {x z : Array Value} (h : DB w W x z) (p : PV) (R : Nat → Prop) (base : Nat) (d : V) (l : List UInt8) (vr : Value) (hp : p.In W) (hd : p.d = d) (hb : ∀ j, p.at_ j → R j ∨ w.heap.size ≤ j) (hne : ∀ j, p.at_ j → j ≠ w.heap.size + 1) (hA : Ans base W vr l) (hbase : w.heap.size + 1 < base) :
    DoP R d l w (.returned (.tuple #[p.agg, vr])) (five W (w.heap.size + 1) (.int .u8 p.k) (.string p.S) (.slice p.ql p.nl p.cl) (.slice p.qh p.nh p.ch) (.slice p.qz p.nz p.cz)) :=
  do_end h p R base d l vr hp hd hb hne hA hbase (five_below h.bl (by omega) _ _ _ _ _) (by simp [five]) (fun j hj => five_other _ _ _ _ _ _ _ _ hj)
theorem do_row {w W : World} {x z : Array Value} (h : DB w W x z) (p : PV) (R : Nat → Prop) (base : Nat) (d : V) (l : List UInt8) (vr : Value) (hp : p.In W) (hd : p.d = d) (hb : ∀ j, p.at_ j → R j ∨ w.heap.size ≤ j) (hne : ∀ j, p.at_ j → j ≠ w.heap.size + 1) (hA : Ans base W vr l) (hbase : w.heap.size + 1 < base) (y : Array Value) :
    DoP R d l w (.returned (.tuple #[p.agg, vr])) (W.setRow (w.heap.size + 1) y) :=
  do_end h p R base d l vr hp hd hb hne hA hbase (below_setRow h.bl (by omega) _) (by simp) (fun j hj => setRow_other _ _ _ _ hj)
theorem pv_keep {w w' : World} {p : PV} (h : p.In w) (hb : Below w.heap.size w w') : p.In w' := h.same hb.size (fun j hj => hb.block j (pv_lt h j hj))
def pvT (S : ByteArray) : PV := ⟨1, S, none, 0, 0, none, 0, 0, none, 0, 0, ⟨1, S.data.toList, [], [], []⟩⟩
theorem pvT_in (S : ByteArray) (w : World) : (pvT S).In w := ⟨rfl, by simp [pvT], rfl, Rs.nil _ _ _, Rs.nil _ _ _, Rs.nil _ _ _, rfl, rfl, rfl, by simp [pvT], by simp [pvT], by simp [pvT], by simp [pvT], by simp [pvT], by simp [pvT], by simp [pvT], by simp [pvT], by simp [pvT], fun _ => rfl, fun _ => rfl, fun _ => rfl⟩
theorem pvT_at (S : ByteArray) (k : Nat) : ¬ (pvT S).at_ k := by
  unfold PV.at_ pvT
  simp
theorem val_all (p : PV) : (#[.int .u8 p.k, .string p.S, .slice p.ql p.nl p.cl, .slice p.qh p.nh p.ch, .slice p.qz p.nz p.cz] : Array Value).all (·.oneCell') = true := by simp [Value.oneCell']

end Go.Proofs.YteadjcligmmkmaaDoor.DoT
