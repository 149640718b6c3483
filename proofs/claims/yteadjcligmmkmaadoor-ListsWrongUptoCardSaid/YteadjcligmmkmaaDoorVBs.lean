/-
  Answers that are read as texts, regions written out in the text's order; values in blocks of their own, and what a request of them leaves there: for the laws of the layers of values.
-/
import Derived.Test.YteadjcligmmkmaaDoorReplyRows
import Derived.Test.YteadjcligmmkmaaDoorDoRow
import Derived.Test.YteadjcligmmkmaaDoorDoMath
import Derived.Test.YteadjcligmmkmaaDoorRow
import Derived.OrdersHeld
import Derived.Deep.RegionHeld
import Derived.Deep.RegionLaw
namespace Go.Proofs.YteadjcligmmkmaaDoor.SaidT
open Go.RowKit Kit ReplyT ReplyMath BytesIn
set_option linter.unusedVariables false
set_option maxRecDepth 100000

def Said (w2 W : World) (N : Nat) (XS : ByteArray) (e : Ending) (w' : World) : Prop :=
  ∃ p c, e = .returned (.slice p N c) ∧ (∀ V, Below w'.heap.size w' V → (convert 29 9 (.slice p N c)).run Tryd.prog V = .ok (.string XS) V) ∧ Below w2.heap.size w2 w' ∧ Below W.heap.size W w' ∧ Below w'.heap.size w' w'
theorem said_of {w2 W : World} {l : List UInt8} {e : Ending} {w' : World} (h : Gives l W e w') (hW : Below w2.heap.size w2 W) (N : Nat) (hN : l.length = N) (XS : ByteArray) (hX : XS.data.toList = l) : Said w2 W N XS e w' := by
  subst hN
  obtain rfl : XS = ⟨l.toArray⟩ := same_bytes hX
  obtain ⟨v, rfl, ⟨p, c, rfl, hB, -⟩, hb⟩ := h
  exact ⟨p, c, rfl, fun V hV => bs_string (hB.keep hV) _ c rfl, hW.trans (hb.mono hW.size), hb, Below.refl _ _⟩
/-- A text, or another plain value, is answered. -/
def Plain (w2 W : World) (v : Value) (e : Ending) (w' : World) : Prop := e = .returned v ∧ Below w2.heap.size w2 w' ∧ Below W.heap.size W w' ∧ Below w'.heap.size w' w'
theorem plain_of {w2 W : World} {v : Value} {e : Ending} {w' : World} (he : e = .returned v) (hb : Below W.heap.size W w') (hW : Below w2.heap.size w2 W) : Plain w2 W v e w' := ⟨he, hW.trans (hb.mono hW.size), hb, Below.refl _ _⟩
theorem held_mono {P : Program} {md : Region.Mode} {ops : Array Oper} {Q : Exit → Act → World → Prop} {S S' : World → Prop} (h : ∀ w, S' w → S w) : ∀ (fuel : Nat) (listed : Array Bool) (a : Act) (w : World), wpAnyH P md ops Q S' fuel listed a w → wpAnyH P md ops Q S fuel listed a w
  | 0, _, _, _, H => H
  | fuel + 1, _, _, _, H => ⟨H.1, fun i hi => wpOp_mono (fun a' w' h' => ⟨h _ h'.1, held_mono h fuel _ a' w' h'.2⟩) (H.2 i hi)⟩


end Go.Proofs.YteadjcligmmkmaaDoor.SaidT
namespace Go.Proofs.YteadjcligmmkmaaDoor.DoV
open Go.RowKit Kit StrT RowG BOrd ValT StoT ReplyT ReplyMath ValM BytesIn DoT
set_option linter.unusedVariables false
set_option maxRecDepth 100000

theorem ss2_new (w : World) (a b : ByteArray) : StrT.Ss (w.alloc (.cells #[.string a, .string b] 9)) (some ⟨w.heap.size, 0, none⟩) [a.data.toList, b.data.toList] := by
  intro _
  refine ⟨w.heap.size, 0, rfl, by simp, fun j hj => ?_⟩
  match j, hj with
  | 0, _ => simp [World.cell?_alloc_mark]
  | 1, _ => simp [World.cell?_alloc_mark]
  | j + 2, hj => exact absurd (show j + 2 < 2 from hj) (by omega)
theorem ss3_new (w : World) (a b c : ByteArray) : StrT.Ss (w.alloc (.cells #[.string a, .string b, .string c] 9)) (some ⟨w.heap.size, 0, none⟩) [a.data.toList, b.data.toList, c.data.toList] := by
  intro _
  refine ⟨w.heap.size, 0, rfl, by simp, fun j hj => ?_⟩
  match j, hj with
  | 0, _ => simp [World.cell?_alloc_mark]
  | 1, _ => simp [World.cell?_alloc_mark]
  | 2, _ => simp [World.cell?_alloc_mark]
  | j + 3, hj => exact absurd (show j + 3 < 3 from hj) (by omega)
theorem wd_le {L : List (List UInt8)} {m : Nat} (h : ∀ s ∈ L, s.length ≤ m) (j : Nat) : (wd L j).length ≤ m := by
  unfold wd
  rw [List.getD_eq_getElem?_getD]
  rcases Nat.lt_or_ge j L.length with hj | hj
  · rw [List.getElem?_eq_getElem hj]
    exact h _ (List.getElem_mem hj)
  · rw [List.getElem?_eq_none hj]
    simp
theorem ss4_new (w : World) (a b c d : ByteArray) : StrT.Ss (w.alloc (.cells #[.string a, .string b, .string c, .string d] 9)) (some ⟨w.heap.size, 0, none⟩) [a.data.toList, b.data.toList, c.data.toList, d.data.toList] := by
  intro _
  refine ⟨w.heap.size, 0, rfl, by simp, fun j hj => ?_⟩
  match j, hj with
  | 0, _ => simp [World.cell?_alloc_mark]
  | 1, _ => simp [World.cell?_alloc_mark]
  | 2, _ => simp [World.cell?_alloc_mark]
  | 3, _ => simp [World.cell?_alloc_mark]
  | j + 4, hj => exact absurd (show j + 4 < 4 from hj) (by omega)
/-- 'string(b)' of what was answered, in whatever world that keeps it. -/
theorem ans_text {base : Nat} {w : World} {v : Value} {l : List UInt8} (h : Ans base w v l) (N : Nat) (hN : l.length = N) (X : ByteArray) (hX : X.data.toList = l) :
    ∃ p c, v = .slice p N c ∧ ∀ W, Below w.heap.size w W → (convert 29 9 (.slice p N c)).run Tryd.prog W = .ok (.string X) W := by
  subst hN
  obtain ⟨p, c, rfl, hB, -⟩ := h
  obtain rfl : X = ⟨l.toArray⟩ := same_bytes hX
  exact ⟨p, c, rfl, fun W hW => bs_string (hB.keep hW) _ c rfl⟩
/-- A value that lies in a block of its own. -/
structure VB (w : World) (g : Nat) (p : PV) : Prop where
  hp : w.heap[g]? = some (.cells #[.int .u8 p.k, .string p.S, .slice p.ql p.nl p.cl, .slice p.qh p.nh p.ch, .slice p.qz p.nz p.cz] 26 (0, 0))
  pv : p.In w
theorem VB.lt {w : World} {g : Nat} {p : PV} (h : VB w g p) : g < w.heap.size := (Array.getElem?_eq_some_iff.1 h.hp).1
theorem VB.keep {w w' : World} {g : Nat} {p : PV} (h : VB w g p) (hb : Below w.heap.size w w') : VB w' g p := ⟨(hb.block g h.lt).trans h.hp, pv_keep h.pv hb⟩
theorem VB.new {w : World} {p : PV} (h : p.In w) : VB (w.alloc (.cells #[.int .u8 p.k, .string p.S, .slice p.ql p.nl p.cl, .slice p.qh p.nh p.ch, .slice p.qz p.nz p.cz] 26)) w.heap.size p := ⟨heap_alloc_last w _, pv_keep h (Kit.below1 w _)⟩
theorem VB.room {w : World} {g : Nat} {p : PV} (h : VB w g p) : VCells w g (.int .u8 p.k) (.string p.S) (.slice p.ql p.nl p.cl) (.slice p.qh p.nh p.ch) (.slice p.qz p.nz p.cz) := VCells.of h.hp
def VZ (w : World) (g : Nat) : Prop := w.heap[g]? = some (.cells #[.int .u8 0, .string ⟨#[]⟩, .slice none 0 0, .slice none 0 0, .slice none 0 0] 26 (0, 0))
theorem VZ.keep {w w' : World} {g : Nat} (h : VZ w g) (hb : Below w.heap.size w w') : VZ w' g := (hb.block g (Array.getElem?_eq_some_iff.1 h).1).trans h
theorem vz_al {w w' : World} (hb : Below (w.alloc (.cells #[.int .u8 0, .string ⟨#[]⟩, .slice none 0 0, .slice none 0 0, .slice none 0 0] 26)).heap.size (w.alloc (.cells #[.int .u8 0, .string ⟨#[]⟩, .slice none 0 0, .slice none 0 0, .slice none 0 0] 26)) w') : VZ w' w.heap.size := VZ.keep (heap_alloc_last w _) hb
theorem vz_da {w w' : World} (hb : Below (w.drew.alloc (.cells #[.int .u8 0, .string ⟨#[]⟩, .slice none 0 0, .slice none 0 0, .slice none 0 0] 26)).heap.size (w.drew.alloc (.cells #[.int .u8 0, .string ⟨#[]⟩, .slice none 0 0, .slice none 0 0, .slice none 0 0] 26)) w') : VZ w' w.heap.size := VZ.keep (heap_alloc_last w.drew _) hb
theorem vz_facts {w : World} {g : Nat} (h : VZ w g) : (w.cell? ⟨g, 0, none⟩ = some (.int .u8 0) ∧ w.cell? ⟨g, 1, none⟩ = some (.string ⟨#[]⟩) ∧ w.cell? ⟨g, 2, none⟩ = some (.slice none 0 0) ∧ w.cell? ⟨g, 3, none⟩ = some (.slice none 0 0) ∧ w.cell? ⟨g, 4, none⟩ = some (.slice none 0 0)) ∧
    w.frozen? ⟨g, 0, none⟩ = false ∧ w.frozen? ⟨g, 1, none⟩ = false ∧ w.frozen? ⟨g, 2, none⟩ = false ∧ w.frozen? ⟨g, 3, none⟩ = false ∧ w.frozen? ⟨g, 4, none⟩ = false := by
  have hv : VCells w g _ _ _ _ _ := VCells.of h
  exact ⟨⟨hv.c0, hv.c1, hv.c2, hv.c3, hv.c4⟩, hv.frz 0, hv.frz 1, hv.frz 2, hv.frz 3, hv.frz 4⟩
theorem c_al {w w' : World} {o : Obj} (hb : Below (w.alloc o).heap.size (w.alloc o) w') : Below w.heap.size w w' := ((Below.refl _ _).alloc (Nat.le_refl _) _).trans (hb.mono (by simp))
theorem c_da {w w' : World} {o : Obj} (hb : Below (w.drew.alloc o).heap.size (w.drew.alloc o) w') : Below w.heap.size w w' := ((Below.refl _ w).drew.alloc (Nat.le_refl _) _).trans (hb.mono (show w.heap.size ≤ (w.drew.alloc o).heap.size by have : w.drew.heap.size = w.heap.size := rfl; simp [this]))
theorem c_dr {w w' : World} (hb : Below w.drew.heap.size w.drew w') : Below w.heap.size w w' := (Below.refl w.heap.size w).drew.trans hb
/-- A value that was answered lies in a block of its own, and all else is as it was: of any value. -/
structure Gov (w w5 wx : World) (g : Nat) (p : PV) (vr : Value) (l : List UInt8) (base : Nat) : Prop where
  b : Below w.heap.size w wx
  v : VB wx g p
  k : ∀ g' p', VB w5 g' p' → (∀ j, p'.at_ j → j ≠ g) → g' ≠ g → VB wx g' p'
  a : Ans base wx vr l
theorem gov_five {w w5 : World} {g base : Nat} {p : PV} {vr : Value} {l : List UInt8} (hz : VZ w5 g) (hp : p.In w5) (hr : ∀ j, p.at_ j → j ≠ g) (hg : w.heap.size ≤ g) (hb : Below w.heap.size w w5) (hA : Ans base w5 vr l) (hbase : g < base) :
    Gov w w5 (five w5 g (.int .u8 p.k) (.string p.S) (.slice p.ql p.nl p.cl) (.slice p.qh p.nh p.ch) (.slice p.qz p.nz p.cz)) g p vr l base where
  b := five_below hb hg _ _ _ _ _
  v := ⟨val_five hz _ _ _ _ _, hp.same (by simp [five]) (fun k hk => five_other _ _ _ _ _ _ _ _ (hr k hk))⟩
  k := fun g' p' h hd' hne => ⟨(five_other _ _ _ _ _ _ _ _ hne).trans h.hp, h.pv.same (by simp [five]) (fun k hk => five_other _ _ _ _ _ _ _ _ (hd' k hk))⟩
  a := ans_high hA (by simp [five]) (fun j hj => five_other _ _ _ _ _ _ _ _ (by omega))
theorem gov_new {w w5 : World} {base : Nat} {p : PV} {vr : Value} {l : List UInt8} (hp : p.In w5) (hb : Below w.heap.size w w5) (hA : Ans base w5 vr l) :
    Gov w w5 (w5.alloc (.cells #[.int .u8 p.k, .string p.S, .slice p.ql p.nl p.cl, .slice p.qh p.nh p.ch, .slice p.qz p.nz p.cz] 26)) w5.heap.size p vr l base where
  b := hb.alloc hb.size _
  v := VB.new hp
  k := fun g' p' h _ _ => h.keep (Kit.below1 _ _)
  a := hA.keep (Kit.below1 _ _)
theorem ans_at {base : Nat} {w : World} {q : Option Addr} {n c : Nat} {l : List UInt8} (h : Ans base w (.slice q n c) l) (X : ByteArray) (hX : X.data.toList = l) (W : World) (hW : Below w.heap.size w W) : (convert 29 9 (.slice q n c)).run Tryd.prog W = .ok (.string X) W := by
  obtain ⟨p, c', e, hB, -⟩ := h
  injection e with e1 e2 e3
  subst e1 e3
  obtain rfl : X = ⟨l.toArray⟩ := same_bytes hX
  exact bs_string (hB.keep hW) _ _ e2
theorem VZ.lt {w : World} {g : Nat} (h : VZ w g) : g < w.heap.size := (Array.getElem?_eq_some_iff.1 h).1
theorem VB.rows {w : World} {g : Nat} {p : PV} (h : VB w g p) : ∀ j, p.at_ j → j < w.heap.size := pv_lt h.pv
theorem ss4_at (w : World) (g : Nat) (hg : g = w.heap.size) (a b c d : ByteArray) : StrT.Ss (w.alloc (.cells #[.string a, .string b, .string c, .string d] 9)) (some ⟨g, 0, none⟩) [a.data.toList, b.data.toList, c.data.toList, d.data.toList] := by
  subst hg
  exact ss4_new w a b c d
/-- An answer laid over a value; beside it another one stays. -/
theorem VB.put {w : World} {g : Nat} {p q : PV} (h : VB w g p) (hq : q.In w) (hne : ∀ j, q.at_ j → j ≠ g) : VB (w.setRow g #[.int .u8 q.k, .string q.S, .slice q.ql q.nl q.cl, .slice q.qh q.nh q.ch, .slice q.qz q.nz q.cz]) g q :=
  ⟨setRow_heap w g _ _ _ _ h.hp, hq.same (by simp) (fun k hk => setRow_other _ _ _ _ (hne k hk))⟩
theorem VB.beside {w : World} {g g' : Nat} {p : PV} (h : VB w g' p) (hne : ∀ j, p.at_ j → j ≠ g) (hg : g' ≠ g) (y : Array Value) : VB (w.setRow g y) g' p :=
  ⟨(setRow_other _ _ _ _ hg).trans h.hp, h.pv.same (by simp) (fun k hk => setRow_other _ _ _ _ (hne k hk))⟩
/-- A value that was answered, and a reply; its rows are new. -/
def DoN (d : V) (l : List UInt8) (w : World) (e : Ending) (w' : World) : Prop :=
  ∃ (p : PV) (vr : Value), e = .returned (.tuple #[p.agg, vr]) ∧ p.In w' ∧ p.d = d ∧ (∀ j, p.at_ j → w.heap.size ≤ j) ∧ Ans w.heap.size w' vr l ∧ Below w.heap.size w w'
theorem doP_n {d : V} {l : List UInt8} {w : World} {e : Ending} {w' : World} (h : DoP (fun _ => False) d l w e w') : DoN d l w e w' := by
  obtain ⟨p, vr, he, hI, hd, hR, hA, hb⟩ := h
  exact ⟨p, vr, he, hI, hd, fun j hj => (hR j hj).resolve_left (fun h => h), hA, hb⟩
theorem doN_w {d : V} {l : List UInt8} {w W : World} {e : Ending} {w' : World} (h : DoN d l W e w') (hb : Below w.heap.size w W) : DoN d l w e w' := by
  obtain ⟨p, vr, he, hI, hd, hR, hA, h1⟩ := h
  exact ⟨p, vr, he, hI, hd, fun j hj => Nat.le_trans hb.size (hR j hj), hA.base hb.size, hb.trans (h1.mono hb.size)⟩

end Go.Proofs.YteadjcligmmkmaaDoor.DoV
