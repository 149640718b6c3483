/-
  What a request of a value leaves in memory; values in blocks of their own; answers that are read as texts.
-/
import Derived.Test.YtodpocciimbjbaaDoorPVs
import Derived.Test.YtodpocciimbjbaaDoorReplyRows
import Derived.Test.YtodpocciimbjbaaDoorLandOwns
import Derived.Test.YtodpocciimbjbaaDoorDoMath
import Derived.Test.YtodpocciimbjbaaDoorRow
import Derived.OrdersHeld
import Derived.Deep.RegionHeld
import Derived.Deep.RegionLaw
namespace Go.Proofs.YtodpocciimbjbaaDoor.DoT
open Go.RowKit Kit StrT RowG BOrd ValT StoT ReplyT ReplyMath ValM BytesIn
set_option linter.unusedVariables false
set_option maxRecDepth 100000

/-- A value whose rows lie in the blocks R, or in new ones, and a reply, are answered. -/
def DoP (R : Nat → Prop) (d : V) (l : List UInt8) (w : World) (e : Ending) (w' : World) : Prop :=
  ∃ (p : PV) (vr : Value), e = .returned (.tuple #[p.agg, vr]) ∧ p.In w' ∧ p.d = d ∧ (∀ j, p.at_ j → R j ∨ w.heap.size ≤ j) ∧ Ans w.heap.size w' vr l ∧ Below w.heap.size w w'
theorem Bs.same {w w' : World} {p : Option Addr} {l : List UInt8} (h : Bs w p l) (hs : w.heap.size ≤ w'.heap.size) (hk : 0 < l.length → ∀ a, p = some a → w'.heap[a.block]? = w.heap[a.block]?) : Bs w' p l := by
  intro h0
  obtain ⟨b, off, e, hlt, hc⟩ := h h0
  refine ⟨b, off, e, by omega, fun j hj => ?_⟩
  rw [← hc j hj]
  simp [World.cell?, hk h0 _ e]
theorem ans_high {base : Nat} {w w' : World} {v : Value} {l : List UInt8} (h : Ans base w v l) (hs : w.heap.size ≤ w'.heap.size) (hk : ∀ j, base ≤ j → w'.heap[j]? = w.heap[j]?) : Ans base w' v l := by
  obtain ⟨p, c, hv, hB, hge, h1⟩ := h
  exact ⟨p, c, hv, Bs.same hB hs (fun _ a ha => hk _ (hge a ha)), hge, h1⟩
/-- The two blocks that a function of a value makes first: what it was given, its answer. -/
structure DB (w W : World) (x z : Array Value) : Prop where
  bx : W.heap[w.heap.size]? = some (.cells x 26 (0, 0))
  re : W.heap[w.heap.size + 1]? = some (.cells z 26 (0, 0))
  bl : Below w.heap.size w W
  sz : w.heap.size + 1 + 1 ≤ W.heap.size
theorem DB.new (w : World) (x z : Array Value) : DB w ((w.alloc (.cells x 26)).alloc (.cells z 26)) x z where
  bx := by
    rw [Below.heap_alloc _ _ _ (by simp)]
    exact heap_alloc_last w _
  re := by
    have h := heap_alloc_last (w.alloc (.cells x 26)) (.cells z 26)
    simpa using h
  bl := ((Below.refl _ _).alloc (Nat.le_refl _) _).alloc (by simp) _
  sz := by simp
theorem DB.keep {w W W' : World} {x z : Array Value} (h : DB w W x z) (hb : Below W.heap.size W W') : DB w W' x z where
  bx := by rw [hb.block _ (by have := h.sz; omega)]; exact h.bx
  re := by rw [hb.block _ (by have := h.sz; omega)]; exact h.re
  bl := h.bl.trans (hb.mono (by have := h.sz; omega))
  sz := Nat.le_trans h.sz hb.size
theorem DB.drew {w W : World} {x z : Array Value} (h : DB w W x z) : DB w W.drew x z := ⟨h.bx, h.re, h.bl.drew, h.sz⟩
theorem DB.setBox {w W : World} {x z : Array Value} (h : DB w W x z) (y : Array Value) : DB w (W.setRow w.heap.size y) y z where
  bx := setRow_heap W w.heap.size _ _ _ _ h.bx
  re := by rw [setRow_other _ _ _ _ (by omega)]; exact h.re
  bl := below_setRow h.bl (Nat.le_refl _) _
  sz := by simpa using h.sz
theorem DB.room {w W : World} {x0 x1 x2 x3 x4 : Value} {z : Array Value} (h : DB w W #[x0, x1, x2, x3, x4] z) : VCells W w.heap.size x0 x1 x2 x3 x4 := VCells.of h.bx
theorem DB.roomR {w W : World} {z0 z1 z2 z3 z4 : Value} {x : Array Value} (h : DB w W x #[z0, z1, z2, z3, z4]) : VCells W (w.heap.size + 1) z0 z1 z2 z3 z4 := VCells.of h.re
theorem pv_lt {w : World} {p : PV} (h : p.In w) : ∀ j, p.at_ j → j < w.heap.size := by
  unfold PV.In at h
  intro j hj
  have lt : ∀ {α : Type} {E : Enc α} {q : Option Addr} {L : List α}, Rs E w q L → 0 < L.length → ∀ a, q = some a → a.block < w.heap.size := fun hR h0 a ha => by
    obtain ⟨b, off, e, hlt, -⟩ := hR h0
    rw [ha] at e
    injection e with e
    subst e
    exact hlt
  rcases hj with ⟨h0, a, ha, rfl⟩ | ⟨h0, a, ha, rfl⟩ | ⟨h0, a, ha, rfl⟩
  · exact lt h.rl h0 a ha
  · exact lt h.rh h0 a ha
  · exact lt h.rz h0 a ha
/-- The answer is stored: whatever way it is, it is the block behind the first one alone that turns. -/
theorem do_end {w W W' : World} {x z : Array Value} (h : DB w W x z) (p : PV) (R : Nat → Prop) (base : Nat) (d : V) (l : List UInt8) (vr : Value) (hp : p.In W) (hd : p.d = d) (hb : ∀ j, p.at_ j → R j ∨ w.heap.size ≤ j) (hne : ∀ j, p.at_ j → j ≠ w.heap.size + 1) (hA : Ans base W vr l) (hbase : w.heap.size + 1 < base)
    (hW : Below w.heap.size w W') (hs : W.heap.size ≤ W'.heap.size) (ho : ∀ j, j ≠ w.heap.size + 1 → W'.heap[j]? = W.heap[j]?) : DoP R d l w (.returned (.tuple #[p.agg, vr])) W' :=
  ⟨p, vr, rfl, hp.same hs (fun j hj => ho j (hne j hj)), hd, hb, (ans_high hA hs (fun j hj => ho j (by omega))).base (by omega), hW⟩
theorem do_five {w W : World} {x z : Array Value} (h : DB w W x z) (p : PV) (R : Nat → Prop) (base : Nat) (d : V) (l : List UInt8) (vr : Value) (hp : p.In W) (hd : p.d = d) (hb : ∀ j, p.at_ j → R j ∨ w.heap.size ≤ j) (hne : ∀ j, p.at_ j → j ≠ w.heap.size + 1) (hA : Ans base W vr l) (hbase : w.heap.size + 1 < base) :
    DoP R d l w (.returned (.tuple #[p.agg, vr])) (five W (w.heap.size + 1) (.int .u8 p.k) (.string p.S) (.slice p.ql p.nl p.cl) (.slice p.qh p.nh p.ch) (.slice p.qz p.nz p.cz)) :=
  do_end h p R base d l vr hp hd hb hne hA hbase (five_below h.bl (by omega) _ _ _ _ _) (by simp [five]) (fun j hj => five_other _ _ _ _ _ _ _ _ hj)
theorem do_row {w W : World} {x z : Array Value} (h : DB w W x z) (p : PV) (R : Nat → Prop) (base : Nat) (d : V) (l : List UInt8) (vr : Value) (hp : p.In W) (hd : p.d = d) (hb : ∀ j, p.at_ j → R j ∨ w.heap.size ≤ j) (hne : ∀ j, p.at_ j → j ≠ w.heap.size + 1) (hA : Ans base W vr l) (hbase : w.heap.size + 1 < base) (y : Array Value) :
    DoP R d l w (.returned (.tuple #[p.agg, vr])) (W.setRow (w.heap.size + 1) y) :=
  do_end h p R base d l vr hp hd hb hne hA hbase (below_setRow h.bl (by omega) _) (by simp) (fun j hj => setRow_other _ _ _ _ hj)
theorem pv_keep {w w' : World} {p : PV} (h : p.In w) (hb : Below w.heap.size w w') : p.In w' := h.same hb.size (fun j hj => hb.block j (pv_lt h j hj))
def pvT (S : ByteArray) : PV := ⟨1, S, none, 0, 0, none, 0, 0, none, 0, 0, ⟨1, S.data.toList, [], [], []⟩⟩
theorem pvT_in (S : ByteArray) (w : World) : (pvT S).In w := ⟨rfl, by simp [pvT], rfl, Rs.nil _ _ _, Rs.nil _ _ _, Rs.nil _ _ _, rfl, rfl, rfl, by simp [pvT], by simp [pvT], by simp [pvT], by simp [pvT], by simp [pvT], by simp [pvT], by simp [pvT], by simp [pvT], by simp [pvT], fun _ => rfl, fun _ => rfl, fun _ => rfl⟩
theorem pvT_at (S : ByteArray) (k : Nat) : ¬ (pvT S).at_ k := by
  unfold PV.at_ pvT
  simp
theorem val_all (p : PV) : (#[.int .u8 p.k, .string p.S, .slice p.ql p.nl p.cl, .slice p.qh p.nh p.ch, .slice p.qz p.nz p.cz] : Array Value).all (·.oneCell') = true := by simp [Value.oneCell']

end Go.Proofs.YtodpocciimbjbaaDoor.DoT
namespace Go.Proofs.YtodpocciimbjbaaDoor.SaidT
open Go.RowKit Kit ReplyT ReplyMath BytesIn
set_option linter.unusedVariables false
set_option maxRecDepth 100000

def Said (w2 W : World) (N : Nat) (XS : ByteArray) (e : Ending) (w' : World) : Prop :=
  ∃ p c, e = .returned (.slice p N c) ∧ (∀ V, Below w'.heap.size w' V → (convert 29 9 (.slice p N c)).run Tryd.prog V = .ok (.string XS) V) ∧ Below w2.heap.size w2 w' ∧ Below W.heap.size W w' ∧ Below w'.heap.size w' w'
theorem said_of {w2 W : World} {l : List UInt8} {e : Ending} {w' : World} (h : Gives l W e w') (hW : Below w2.heap.size w2 W) (N : Nat) (hN : l.length = N) (XS : ByteArray) (hX : XS.data.toList = l) : Said w2 W N XS e w' := by
  subst hN
  obtain rfl : XS = ⟨l.toArray⟩ := same_bytes hX
  obtain ⟨v, rfl, ⟨p, c, rfl, hB, -⟩, hb⟩ := h
  exact ⟨p, c, rfl, fun V hV => bs_string (hB.keep hV) _ c rfl, hW.trans (hb.mono hW.size), hb, Below.refl _ _⟩
/-- A text, or another plain value, is answered. -/
def Plain (w2 W : World) (v : Value) (e : Ending) (w' : World) : Prop := e = .returned v ∧ Below w2.heap.size w2 w' ∧ Below W.heap.size W w' ∧ Below w'.heap.size w' w'
theorem plain_of {w2 W : World} {v : Value} {e : Ending} {w' : World} (he : e = .returned v) (hb : Below W.heap.size W w') (hW : Below w2.heap.size w2 W) : Plain w2 W v e w' := ⟨he, hW.trans (hb.mono hW.size), hb, Below.refl _ _⟩
theorem held_mono {P : Program} {md : Region.Mode} {ops : Array Oper} {Q : Exit → Act → World → Prop} {S S' : World → Prop} (h : ∀ w, S' w → S w) : ∀ (fuel : Nat) (listed : Array Bool) (a : Act) (w : World), wpAnyH P md ops Q S' fuel listed a w → wpAnyH P md ops Q S fuel listed a w
  | 0, _, _, _, H => H
  | fuel + 1, _, _, _, H => ⟨H.1, fun i hi => wpOp_mono (fun a' w' h' => ⟨h _ h'.1, held_mono h fuel _ a' w' h'.2⟩) (H.2 i hi)⟩


end Go.Proofs.YtodpocciimbjbaaDoor.SaidT
namespace Go.Proofs.YtodpocciimbjbaaDoor.DoV
open Go.RowKit Kit StrT RowG BOrd ValT StoT ReplyT ReplyMath ValM BytesIn DoT
set_option linter.unusedVariables false
set_option maxRecDepth 100000

theorem ss2_new (w : World) (a b : ByteArray) : StrT.Ss (w.alloc (.cells #[.string a, .string b] 9)) (some ⟨w.heap.size, 0, none⟩) [a.data.toList, b.data.toList] := by
  intro _
  refine ⟨w.heap.size, 0, rfl, by simp, fun j hj => ?_⟩
  match j, hj with
  | 0, _ => simp [World.cell?_alloc_mark]
  | 1, _ => simp [World.cell?_alloc_mark]
  | j + 2, hj => exact absurd (show j + 2 < 2 from hj) (by omega)
theorem ss3_new (w : World) (a b c : ByteArray) : StrT.Ss (w.alloc (.cells #[.string a, .string b, .string c] 9)) (some ⟨w.heap.size, 0, none⟩) [a.data.toList, b.data.toList, c.data.toList] := by
  intro _
  refine ⟨w.heap.size, 0, rfl, by simp, fun j hj => ?_⟩
  match j, hj with
  | 0, _ => simp [World.cell?_alloc_mark]
  | 1, _ => simp [World.cell?_alloc_mark]
  | 2, _ => simp [World.cell?_alloc_mark]
  | j + 3, hj => exact absurd (show j + 3 < 3 from hj) (by omega)
theorem wd_le {L : List (List UInt8)} {m : Nat} (h : ∀ s ∈ L, s.length ≤ m) (j : Nat) : (wd L j).length ≤ m := by
  unfold wd
  rw [List.getD_eq_getElem?_getD]
  rcases Nat.lt_or_ge j L.length with hj | hj
  · rw [List.getElem?_eq_getElem hj]
    exact h _ (List.getElem_mem hj)
  · rw [List.getElem?_eq_none hj]
    simp
theorem ss4_new (w : World) (a b c d : ByteArray) : StrT.Ss (w.alloc (.cells #[.string a, .string b, .string c, .string d] 9)) (some ⟨w.heap.size, 0, none⟩) [a.data.toList, b.data.toList, c.data.toList, d.data.toList] := by
  intro _
  refine ⟨w.heap.size, 0, rfl, by simp, fun j hj => ?_⟩
  match j, hj with
  | 0, _ => simp [World.cell?_alloc_mark]
  | 1, _ => simp [World.cell?_alloc_mark]
  | 2, _ => simp [World.cell?_alloc_mark]
  | 3, _ => simp [World.cell?_alloc_mark]
  | j + 4, hj => exact absurd (show j + 4 < 4 from hj) (by omega)
/-- 'string(b)' of what was answered, in whatever world that keeps it. -/
theorem ans_text {base : Nat} {w : World} {v : Value} {l : List UInt8} (h : Ans base w v l) (N : Nat) (hN : l.length = N) (X : ByteArray) (hX : X.data.toList = l) :
    ∃ p c, v = .slice p N c ∧ ∀ W, Below w.heap.size w W → (convert 29 9 (.slice p N c)).run Tryd.prog W = .ok (.string X) W := by
  subst hN
  obtain ⟨p, c, rfl, hB, -⟩ := h
  obtain rfl : X = ⟨l.toArray⟩ := same_bytes hX
  exact ⟨p, c, rfl, fun W hW => bs_string (hB.keep hW) _ c rfl⟩
/-- A value that lies in a block of its own. -/
structure VB (w : World) (g : Nat) (p : PV) : Prop where
  hp : w.heap[g]? = some (.cells #[.int .u8 p.k, .string p.S, .slice p.ql p.nl p.cl, .slice p.qh p.nh p.ch, .slice p.qz p.nz p.cz] 26 (0, 0))
  pv : p.In w
theorem VB.lt {w : World} {g : Nat} {p : PV} (h : VB w g p) : g < w.heap.size := (Array.getElem?_eq_some_iff.1 h.hp).1
theorem VB.keep {w w' : World} {g : Nat} {p : PV} (h : VB w g p) (hb : Below w.heap.size w w') : VB w' g p := ⟨(hb.block g h.lt).trans h.hp, pv_keep h.pv hb⟩
theorem VB.new {w : World} {p : PV} (h : p.In w) : VB (w.alloc (.cells #[.int .u8 p.k, .string p.S, .slice p.ql p.nl p.cl, .slice p.qh p.nh p.ch, .slice p.qz p.nz p.cz] 26)) w.heap.size p := ⟨heap_alloc_last w _, pv_keep h (Kit.below1 w _)⟩
theorem VB.room {w : World} {g : Nat} {p : PV} (h : VB w g p) : VCells w g (.int .u8 p.k) (.string p.S) (.slice p.ql p.nl p.cl) (.slice p.qh p.nh p.ch) (.slice p.qz p.nz p.cz) := VCells.of h.hp
def VZ (w : World) (g : Nat) : Prop := w.heap[g]? = some (.cells #[.int .u8 0, .string ⟨#[]⟩, .slice none 0 0, .slice none 0 0, .slice none 0 0] 26 (0, 0))
theorem VZ.keep {w w' : World} {g : Nat} (h : VZ w g) (hb : Below w.heap.size w w') : VZ w' g := (hb.block g (Array.getElem?_eq_some_iff.1 h).1).trans h
theorem vz_al {w w' : World} (hb : Below (w.alloc (.cells #[.int .u8 0, .string ⟨#[]⟩, .slice none 0 0, .slice none 0 0, .slice none 0 0] 26)).heap.size (w.alloc (.cells #[.int .u8 0, .string ⟨#[]⟩, .slice none 0 0, .slice none 0 0, .slice none 0 0] 26)) w') : VZ w' w.heap.size := VZ.keep (heap_alloc_last w _) hb
theorem vz_da {w w' : World} (hb : Below (w.drew.alloc (.cells #[.int .u8 0, .string ⟨#[]⟩, .slice none 0 0, .slice none 0 0, .slice none 0 0] 26)).heap.size (w.drew.alloc (.cells #[.int .u8 0, .string ⟨#[]⟩, .slice none 0 0, .slice none 0 0, .slice none 0 0] 26)) w') : VZ w' w.heap.size := VZ.keep (heap_alloc_last w.drew _) hb
theorem vz_facts {w : World} {g : Nat} (h : VZ w g) : (w.cell? ⟨g, 0, none⟩ = some (.int .u8 0) ∧ w.cell? ⟨g, 1, none⟩ = some (.string ⟨#[]⟩) ∧ w.cell? ⟨g, 2, none⟩ = some (.slice none 0 0) ∧ w.cell? ⟨g, 3, none⟩ = some (.slice none 0 0) ∧ w.cell? ⟨g, 4, none⟩ = some (.slice none 0 0)) ∧
    w.frozen? ⟨g, 0, none⟩ = false ∧ w.frozen? ⟨g, 1, none⟩ = false ∧ w.frozen? ⟨g, 2, none⟩ = false ∧ w.frozen? ⟨g, 3, none⟩ = false ∧ w.frozen? ⟨g, 4, none⟩ = false := by
  have hv : VCells w g _ _ _ _ _ := VCells.of h
  exact ⟨⟨hv.c0, hv.c1, hv.c2, hv.c3, hv.c4⟩, hv.frz 0, hv.frz 1, hv.frz 2, hv.frz 3, hv.frz 4⟩
theorem c_al {w w' : World} {o : Obj} (hb : Below (w.alloc o).heap.size (w.alloc o) w') : Below w.heap.size w w' := ((Below.refl _ _).alloc (Nat.le_refl _) _).trans (hb.mono (by simp))
theorem c_da {w w' : World} {o : Obj} (hb : Below (w.drew.alloc o).heap.size (w.drew.alloc o) w') : Below w.heap.size w w' := ((Below.refl _ w).drew.alloc (Nat.le_refl _) _).trans (hb.mono (show w.heap.size ≤ (w.drew.alloc o).heap.size by have : w.drew.heap.size = w.heap.size := rfl; simp [this]))
theorem c_dr {w w' : World} (hb : Below w.drew.heap.size w.drew w') : Below w.heap.size w w' := (Below.refl w.heap.size w).drew.trans hb
/-- A value that was answered lies in a block of its own, and all else is as it was: of any value. -/
structure Gov (w w5 wx : World) (g : Nat) (p : PV) (vr : Value) (l : List UInt8) (base : Nat) : Prop where
  b : Below w.heap.size w wx
  v : VB wx g p
  k : ∀ g' p', VB w5 g' p' → (∀ j, p'.at_ j → j ≠ g) → g' ≠ g → VB wx g' p'
  a : Ans base wx vr l
theorem gov_five {w w5 : World} {g base : Nat} {p : PV} {vr : Value} {l : List UInt8} (hz : VZ w5 g) (hp : p.In w5) (hr : ∀ j, p.at_ j → j ≠ g) (hg : w.heap.size ≤ g) (hb : Below w.heap.size w w5) (hA : Ans base w5 vr l) (hbase : g < base) :
    Gov w w5 (five w5 g (.int .u8 p.k) (.string p.S) (.slice p.ql p.nl p.cl) (.slice p.qh p.nh p.ch) (.slice p.qz p.nz p.cz)) g p vr l base where
  b := five_below hb hg _ _ _ _ _
  v := ⟨val_five hz _ _ _ _ _, hp.same (by simp [five]) (fun k hk => five_other _ _ _ _ _ _ _ _ (hr k hk))⟩
  k := fun g' p' h hd' hne => ⟨(five_other _ _ _ _ _ _ _ _ hne).trans h.hp, h.pv.same (by simp [five]) (fun k hk => five_other _ _ _ _ _ _ _ _ (hd' k hk))⟩
  a := ans_high hA (by simp [five]) (fun j hj => five_other _ _ _ _ _ _ _ _ (by omega))
theorem gov_new {w w5 : World} {base : Nat} {p : PV} {vr : Value} {l : List UInt8} (hp : p.In w5) (hb : Below w.heap.size w w5) (hA : Ans base w5 vr l) :
    Gov w w5 (w5.alloc (.cells #[.int .u8 p.k, .string p.S, .slice p.ql p.nl p.cl, .slice p.qh p.nh p.ch, .slice p.qz p.nz p.cz] 26)) w5.heap.size p vr l base where
  b := hb.alloc hb.size _
  v := VB.new hp
  k := fun g' p' h _ _ => h.keep (Kit.below1 _ _)
  a := hA.keep (Kit.below1 _ _)
theorem ans_at {base : Nat} {w : World} {q : Option Addr} {n c : Nat} {l : List UInt8} (h : Ans base w (.slice q n c) l) (X : ByteArray) (hX : X.data.toList = l) (W : World) (hW : Below w.heap.size w W) : (convert 29 9 (.slice q n c)).run Tryd.prog W = .ok (.string X) W := by
  obtain ⟨p, c', e, hB, -⟩ := h
  injection e with e1 e2 e3
  subst e1 e3
  obtain rfl : X = ⟨l.toArray⟩ := same_bytes hX
  exact bs_string (hB.keep hW) _ _ e2
theorem VZ.lt {w : World} {g : Nat} (h : VZ w g) : g < w.heap.size := (Array.getElem?_eq_some_iff.1 h).1
theorem VB.rows {w : World} {g : Nat} {p : PV} (h : VB w g p) : ∀ j, p.at_ j → j < w.heap.size := pv_lt h.pv
theorem ss4_at (w : World) (g : Nat) (hg : g = w.heap.size) (a b c d : ByteArray) : StrT.Ss (w.alloc (.cells #[.string a, .string b, .string c, .string d] 9)) (some ⟨g, 0, none⟩) [a.data.toList, b.data.toList, c.data.toList, d.data.toList] := by
  subst hg
  exact ss4_new w a b c d
/-- An answer laid over a value; beside it another one stays. -/
theorem VB.put {w : World} {g : Nat} {p q : PV} (h : VB w g p) (hq : q.In w) (hne : ∀ j, q.at_ j → j ≠ g) : VB (w.setRow g #[.int .u8 q.k, .string q.S, .slice q.ql q.nl q.cl, .slice q.qh q.nh q.ch, .slice q.qz q.nz q.cz]) g q :=
  ⟨setRow_heap w g _ _ _ _ h.hp, hq.same (by simp) (fun k hk => setRow_other _ _ _ _ (hne k hk))⟩
theorem VB.beside {w : World} {g g' : Nat} {p : PV} (h : VB w g' p) (hne : ∀ j, p.at_ j → j ≠ g) (hg : g' ≠ g) (y : Array Value) : VB (w.setRow g y) g' p :=
  ⟨(setRow_other _ _ _ _ hg).trans h.hp, h.pv.same (by simp) (fun k hk => setRow_other _ _ _ _ (hne k hk))⟩
/-- A value that was answered, and a reply; its rows are new. -/
def DoN (d : V) (l : List UInt8) (w : World) (e : Ending) (w' : World) : Prop :=
  ∃ (p : PV) (vr : Value), e = .returned (.tuple #[p.agg, vr]) ∧ p.In w' ∧ p.d = d ∧ (∀ j, p.at_ j → w.heap.size ≤ j) ∧ Ans w.heap.size w' vr l ∧ Below w.heap.size w w'
theorem doP_n {d : V} {l : List UInt8} {w : World} {e : Ending} {w' : World} (h : DoP (fun _ => False) d l w e w') : DoN d l w e w' := by
  obtain ⟨p, vr, he, hI, hd, hR, hA, hb⟩ := h
  exact ⟨p, vr, he, hI, hd, fun j hj => (hR j hj).resolve_left (fun h => h), hA, hb⟩
theorem doN_w {d : V} {l : List UInt8} {w W : World} {e : Ending} {w' : World} (h : DoN d l W e w') (hb : Below w.heap.size w W) : DoN d l w e w' := by
  obtain ⟨p, vr, he, hI, hd, hR, hA, h1⟩ := h
  exact ⟨p, vr, he, hI, hd, fun j hj => Nat.le_trans hb.size (hR j hj), hA.base hb.size, hb.trans (h1.mono hb.size)⟩

end Go.Proofs.YtodpocciimbjbaaDoor.DoV
