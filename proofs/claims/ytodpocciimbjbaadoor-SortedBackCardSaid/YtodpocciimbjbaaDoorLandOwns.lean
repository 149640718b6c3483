/-
  The landed copy of a value: rows, and the whole.
-/
import Derived.Test.YtodpocciimbjbaaDoorValRowz
import Derived.Test.YtodpocciimbjbaaDoorGRows
import Derived.Lib.SliceRun
import Derived.Deep.RegionHeld
namespace Go.Proofs.YtodpocciimbjbaaDoor.ValM
open Go.Lib Go.RowKit Kit StrT RowG BOrd ValT RefV
set_option linter.unusedVariables false
set_option maxRecDepth 100000

/-- What a copy of a row comes to. -/
def RowP {α : Type} (E : Enc α) (L : List α) (w : World) (e : Ending) (w' : World) : Prop := ∃ q, e = .returned (.slice q L.length L.length) ∧ OwnR E w.heap.size w' (.slice q L.length L.length) L ∧ Below w.heap.size w w'
/-- A row without room behind it. -/
def Tight (v : Value) (n : Nat) : Prop := ∃ q, v = .slice q n n

set_option maxHeartbeats 2000000 in
theorem own_s (q : Option Addr) (L : List (List UInt8)) (n c : Nat) (w : World) (hL : L.length = n) (h : Rs strE w q L) (hz : n ≤ 1048576) (hc : n ≤ c) (hnil : q = none → c = 0) :
    Calls Tryd.prog 36 #[.slice q n c] w (RowP strE L w) := by
  have e0 : ∀ W (a : Option Addr) (x y : Nat), (binOp .eql 22 (.slice a x y) (.slice none 0 0)).run Tryd.prog W = .ok (.bool a.isNone) W := fun W a x y => run_eql_slice_nil W 22 strE.ty a x y 0 0 strE.und
  cases q with
  | none =>
    have e1 := fun W => e0 W none 0 0
    obtain rfl := hnil rfl
    obtain rfl : n = 0 := by omega
    obtain rfl : L = [] := List.eq_nil_of_length_eq_zero hL
    clear hL h hz hc hnil
    go_enter Tryd.func36, Tryd.ntmps36
    go_wp2_with fail
    go_ret
    exact ⟨none, rfl, ownR_nil _ _ _, Below.refl _ _⟩
  | some ad =>
    have e1 := fun W x y => e0 W (some ad) x y
    have HR := Lib.hid h
    have HL := Lib.hid hL
    clear h hL hnil hc
    go_enter Tryd.func36, Tryd.ntmps36
    go_wp2_with (first
      | (at_make; with_reducible refine wpList_make_r strE rfl _ _ rfl n rfl rfl hz ?_; intro w1 hm1 hb1; have HM := Lib.hid hm1; have HR1 := Lib.hid (HR.out.keep hb1); have HB1 := Lib.hid hb1; clear hm1 hb1)
      | (with_reducible refine wpList_copy_r strE rfl (.tmp 9) (.tmp 10) rfl w.heap.size n c rfl HM.out _ L rfl HL.out HR1.out w.heap.size w HB1.out (Nat.le_refl _) ?_; intro w2 ho2 hb2))
    have HO := Lib.hid ho2
    clear ho2
    go_ret
    exact ⟨some ⟨w.heap.size, 0, none⟩, by rw [HL.out]; rfl, by rw [HL.out]; exact HO.out, hb2⟩

set_option maxHeartbeats 2000000 in
theorem own_p (q : Option Addr) (L : List Pr) (n c : Nat) (w : World) (hL : L.length = n) (h : Rs prE w q L) (hz : n ≤ 1048576) (hc : n ≤ c) (hnil : q = none → c = 0) :
    Calls Tryd.prog 37 #[.slice q n c] w (RowP prE L w) := by
  have e0 : ∀ W (a : Option Addr) (x y : Nat), (binOp .eql 23 (.slice a x y) (.slice none 0 0)).run Tryd.prog W = .ok (.bool a.isNone) W := fun W a x y => run_eql_slice_nil W 23 prE.ty a x y 0 0 prE.und
  cases q with
  | none =>
    have e1 := fun W => e0 W none 0 0
    obtain rfl := hnil rfl
    obtain rfl : n = 0 := by omega
    obtain rfl : L = [] := List.eq_nil_of_length_eq_zero hL
    clear hL h hz hc hnil
    go_enter Tryd.func37, Tryd.ntmps37
    go_wp2_with fail
    go_ret
    exact ⟨none, rfl, ownR_nil _ _ _, Below.refl _ _⟩
  | some ad =>
    have e1 := fun W x y => e0 W (some ad) x y
    have HR := Lib.hid h
    have HL := Lib.hid hL
    clear h hL hnil hc
    go_enter Tryd.func37, Tryd.ntmps37
    go_wp2_with (first
      | (at_make; with_reducible refine wpList_make_r prE rfl _ _ rfl n rfl rfl hz ?_; intro w1 hm1 hb1; have HM := Lib.hid hm1; have HR1 := Lib.hid (HR.out.keep hb1); have HB1 := Lib.hid hb1; clear hm1 hb1)
      | (with_reducible refine wpList_copy_r prE rfl (.tmp 9) (.tmp 10) rfl w.heap.size n c rfl HM.out _ L rfl HL.out HR1.out w.heap.size w HB1.out (Nat.le_refl _) ?_; intro w2 ho2 hb2))
    have HO := Lib.hid ho2
    clear ho2
    go_ret
    exact ⟨some ⟨w.heap.size, 0, none⟩, by rw [HL.out]; rfl, by rw [HL.out]; exact HO.out, hb2⟩

set_option maxHeartbeats 2000000 in
theorem own_m (q : Option Addr) (L : List Mk) (n c : Nat) (w : World) (hL : L.length = n) (h : Rs mkE w q L) (hz : n ≤ 1048576) (hc : n ≤ c) (hnil : q = none → c = 0) :
    Calls Tryd.prog 38 #[.slice q n c] w (RowP mkE L w) := by
  have e0 : ∀ W (a : Option Addr) (x y : Nat), (binOp .eql 24 (.slice a x y) (.slice none 0 0)).run Tryd.prog W = .ok (.bool a.isNone) W := fun W a x y => run_eql_slice_nil W 24 mkE.ty a x y 0 0 mkE.und
  cases q with
  | none =>
    have e1 := fun W => e0 W none 0 0
    obtain rfl := hnil rfl
    obtain rfl : n = 0 := by omega
    obtain rfl : L = [] := List.eq_nil_of_length_eq_zero hL
    clear hL h hz hc hnil
    go_enter Tryd.func38, Tryd.ntmps38
    go_wp2_with fail
    go_ret
    exact ⟨none, rfl, ownR_nil _ _ _, Below.refl _ _⟩
  | some ad =>
    have e1 := fun W x y => e0 W (some ad) x y
    have HR := Lib.hid h
    have HL := Lib.hid hL
    clear h hL hnil hc
    go_enter Tryd.func38, Tryd.ntmps38
    go_wp2_with (first
      | (at_make; with_reducible refine wpList_make_r mkE rfl _ _ rfl n rfl rfl hz ?_; intro w1 hm1 hb1; have HM := Lib.hid hm1; have HR1 := Lib.hid (HR.out.keep hb1); have HB1 := Lib.hid hb1; clear hm1 hb1)
      | (with_reducible refine wpList_copy_r mkE rfl (.tmp 9) (.tmp 10) rfl w.heap.size n c rfl HM.out _ L rfl HL.out HR1.out w.heap.size w HB1.out (Nat.le_refl _) ?_; intro w2 ho2 hb2))
    have HO := Lib.hid ho2
    clear ho2
    go_ret
    exact ⟨some ⟨w.heap.size, 0, none⟩, by rw [HL.out]; rfl, by rw [HL.out]; exact HO.out, hb2⟩

end Go.Proofs.YtodpocciimbjbaaDoor.ValM
namespace Go.Proofs.YtodpocciimbjbaaDoor.ValM
open Go.RowKit Kit StrT RowG BOrd ValT RefV
set_option linter.unusedVariables false
set_option maxRecDepth 100000

theorem OwnR.high {α : Type} {E : Enc α} {base : Nat} {w w' : World} {v : Value} {L : List α} (h : OwnR E base w v L) (ho : ∀ j, base ≤ j → w'.heap[j]? = w.heap[j]?) : OwnR E base w' v L := by
  refine ⟨h.1, ?_⟩
  rcases h.2 with h1 | ⟨g, cap, cur, e, hg, h2, h3⟩
  · exact Or.inl h1
  · exact Or.inr ⟨g, cap, cur, e, hg, (ho g hg).trans h2, h3⟩
/-- A copy of a value, of which the rows are the call's own. -/
def OwnP2 (d : V) (w : World) (e : Ending) (w' : World) : Prop :=
  ∃ S vl vh vz, e = .returned (.agg #[.int .u8 (d.kind : Int), .string S, vl, vh, vz]) ∧ S.data.toList = d.s ∧ OwnR strE w.heap.size w' vl d.l ∧ OwnR prE w.heap.size w' vh d.h ∧ OwnR mkE w.heap.size w' vz d.z ∧ Below w.heap.size w w' ∧ Tight vl d.l.length ∧ Tight vh d.h.length ∧ Tight vz d.z.length
theorem OwnP2.p {d : V} {w w' : World} {e : Ending} (h : OwnP2 d w e w') : OwnP d w e w' := by
  obtain ⟨S, vl, vh, vz, h1, h2, h3, h4, h5, h6, -⟩ := h
  exact ⟨S, vl, vh, vz, h1, h2, OwnR.rowO h3, OwnR.rowO h4, OwnR.rowO h5, h6⟩
def five (W : World) (g : Nat) (y0 y1 y2 y3 y4 : Value) : World := ((((W.setCell ⟨g, 0, none⟩ y0).setCell ⟨g, 1, none⟩ y1).setCell ⟨g, 2, none⟩ y2).setCell ⟨g, 3, none⟩ y3).setCell ⟨g, 4, none⟩ y4
theorem val_five {W : World} {g : Nat} {x0 x1 x2 x3 x4 : Value} (h : W.heap[g]? = some (.cells #[x0, x1, x2, x3, x4] 26 (0, 0))) (y0 y1 y2 y3 y4 : Value) : (five W g y0 y1 y2 y3 y4).heap[g]? = some (.cells #[y0, y1, y2, y3, y4] 26 (0, 0)) := by
  have h1 := heap_setCell_same _ _ 0 _ _ y0 h
  have h2 := heap_setCell_same _ _ 1 _ _ y1 h1
  have h3 := heap_setCell_same _ _ 2 _ _ y2 h2
  have h4 := heap_setCell_same _ _ 3 _ _ y3 h3
  exact heap_setCell_same _ _ 4 _ _ y4 h4
theorem five_other (W : World) (g j : Nat) (y0 y1 y2 y3 y4 : Value) (h : j ≠ g) : (five W g y0 y1 y2 y3 y4).heap[j]? = W.heap[j]? := by
  unfold five
  rw [heap_setCell_other _ _ _ _ h, heap_setCell_other _ _ _ _ h, heap_setCell_other _ _ _ _ h, heap_setCell_other _ _ _ _ h, heap_setCell_other _ _ _ _ h]
theorem five_below {B g : Nat} {w W : World} (h : Below B w W) (hg : B ≤ g) (y0 y1 y2 y3 y4 : Value) : Below B w (five W g y0 y1 y2 y3 y4) :=
  ((((h.setCell (p := ⟨g, 0, none⟩) hg y0).setCell (p := ⟨g, 1, none⟩) hg y1).setCell (p := ⟨g, 2, none⟩) hg y2).setCell (p := ⟨g, 3, none⟩) hg y3).setCell (p := ⟨g, 4, none⟩) hg y4
theorem own_end {w w6 : World} {d : V} {k : Int} {S : ByteArray} {va vb vc : Value} {g1 b1 b2 b3 : Nat} (hk : k = (d.kind : Int)) (hS : S.data.toList = d.s) (hb : Below w.heap.size w w6) (h0 : w.heap.size + 1 ≤ g1) (h1 : g1 < b1) (h2 : g1 < b2) (h3 : g1 < b3)
    (ha : OwnR strE b1 w6 va d.l) (hp : OwnR prE b2 w6 vb d.h) (hm : OwnR mkE b3 w6 vc d.z) (ta : Tight va d.l.length) (tp : Tight vb d.h.length) (tm : Tight vc d.z.length) :
    OwnP2 d w (.returned (.agg #[.int .u8 k, .string S, va, vb, vc])) (five w6 g1 (.int .u8 k) (.string S) va vb vc) := by
  subst hk
  have ho : ∀ j, g1 < j → (five w6 g1 (.int .u8 (d.kind : Int)) (.string S) va vb vc).heap[j]? = w6.heap[j]? := fun j hj => five_other w6 _ j _ _ _ _ _ (by omega)
  exact ⟨S, va, vb, vc, rfl, hS, OwnR.low (OwnR.high ha fun j hj => ho j (by omega)) (by omega), OwnR.low (OwnR.high hp fun j hj => ho j (by omega)) (by omega), OwnR.low (OwnR.high hm fun j hj => ho j (by omega)) (by omega), five_below hb (by omega) _ _ _ _ _, ta, tp, tm⟩

/-- What lies in a cell. -/
def atD (w : World) (p : Addr) : Value := (w.cell? p).getD undef
theorem atD_of {w : World} {p : Addr} {v : Value} (h : w.cell? p = some v) : w.cell? p = some (atD w p) := by
  unfold atD
  rw [h]
  rfl
/-- What the copying of rows leaves: the value that came in, and room for the one that is answered. -/
structure SV (w : World) (b0 g1 : Nat) (k : Int) (S : ByteArray) (ql : Option Addr) (nl cl : Nat) (qh : Option Addr) (nh ch : Nat) (qz : Option Addr) (nz cz : Nat) (W : World) : Prop where
  bl : Below w.heap.size w W
  va : ∃ x0 x1 x2 x3 x4, VCells W b0 x0 x1 x2 x3 x4 ∧ x0 = .int .u8 k ∧ x1 = .string S ∧ x2 = .slice ql nl cl ∧ x3 = .slice qh nh ch ∧ x4 = .slice qz nz cz
  ro : ∃ x0 x1 x2 x3 x4, VCells W g1 x0 x1 x2 x3 x4
section
variable {w W : World} {b0 g1 : Nat} {k : Int} {S : ByteArray} {ql : Option Addr} {nl cl : Nat} {qh : Option Addr} {nh ch : Nat} {qz : Option Addr} {nz cz : Nat}
theorem SV.keep {W' : World} (h : SV w b0 g1 k S ql nl cl qh nh ch qz nz cz W) (hb : Below W.heap.size W W') : SV w b0 g1 k S ql nl cl qh nh ch qz nz cz W' := by
  obtain ⟨h1, ⟨x0, x1, x2, x3, x4, h2, h3⟩, y0, y1, y2, y3, y4, h4⟩ := h
  exact ⟨h1.trans (hb.mono h1.size), ⟨x0, x1, x2, x3, x4, h2.keep hb, h3⟩, y0, y1, y2, y3, y4, h4.keep hb⟩
theorem SV.put (h : SV w b0 g1 k S ql nl cl qh nh ch qz nz cz W) (hg : b0 ≠ g1) (hw : w.heap.size ≤ g1) (y0 y1 y2 y3 y4 : Value) : SV w b0 g1 k S ql nl cl qh nh ch qz nz cz (five W g1 y0 y1 y2 y3 y4) := by
  obtain ⟨h1, ⟨x0, x1, x2, x3, x4, h2, h3⟩, z0, z1, z2, z3, z4, h4⟩ := h
  exact ⟨five_below h1 hw _ _ _ _ _, ⟨x0, x1, x2, x3, x4, VCells.of (by rw [five_other _ _ _ _ _ _ _ _ hg]; exact h2.hp), h3⟩, _, _, _, _, _, VCells.of (val_five h4.hp y0 y1 y2 y3 y4)⟩
theorem SV.lt (h : SV w b0 g1 k S ql nl cl qh nh ch qz nz cz W) : g1 < W.heap.size := by
  obtain ⟨-, -, y0, y1, y2, y3, y4, h4⟩ := h
  exact h4.lt
theorem SV.tell (h : SV w b0 g1 k S ql nl cl qh nh ch qz nz cz W) : Below w.heap.size w W ∧ W.cell? ⟨b0, 0, none⟩ = some (.int .u8 k) ∧ W.cell? ⟨b0, 1, none⟩ = some (.string S) ∧ W.cell? ⟨b0, 2, none⟩ = some (.slice ql nl cl) ∧ W.cell? ⟨b0, 3, none⟩ = some (.slice qh nh ch) ∧ W.cell? ⟨b0, 4, none⟩ = some (.slice qz nz cz) ∧ W.cell? ⟨g1, 0, none⟩ = some (atD W ⟨g1, 0, none⟩) ∧ W.cell? ⟨g1, 1, none⟩ = some (atD W ⟨g1, 1, none⟩) ∧ W.cell? ⟨g1, 2, none⟩ = some (atD W ⟨g1, 2, none⟩) ∧ W.cell? ⟨g1, 3, none⟩ = some (atD W ⟨g1, 3, none⟩) ∧ W.cell? ⟨g1, 4, none⟩ = some (atD W ⟨g1, 4, none⟩) ∧ W.frozen? ⟨g1, 0, none⟩ = false ∧ W.frozen? ⟨g1, 1, none⟩ = false ∧ W.frozen? ⟨g1, 2, none⟩ = false ∧ W.frozen? ⟨g1, 3, none⟩ = false ∧ W.frozen? ⟨g1, 4, none⟩ = false := by
  obtain ⟨h1, ⟨x0, x1, x2, x3, x4, h2, rfl, rfl, rfl, rfl, rfl⟩, y0, y1, y2, y3, y4, h4⟩ := h
  exact ⟨h1, h2.c0, h2.c1, h2.c2, h2.c3, h2.c4, atD_of h4.c0, atD_of h4.c1, atD_of h4.c2, atD_of h4.c3, atD_of h4.c4, h4.frz 0, h4.frz 1, h4.frz 2, h4.frz 3, h4.frz 4⟩
end
/-- A copy of a row, beside what was there. -/
def RowQ {α : Type} (E : Enc α) (L : List α) (n : Nat) (T : World → Prop) (g1 : Nat) (W : World) (e : Ending) (w' : World) : Prop := ∃ q, e = .returned (.slice q n n) ∧ Hid (OwnR E (g1 + 1) w' (.slice q n n) L) ∧ Hid (Below W.heap.size W w') ∧ T w'
theorem rowQ_of {α : Type} {E : Enc α} {L : List α} {n : Nat} {T : World → Prop} {g1 : Nat} {W : World} {e : Ending} {w' : World} (hn : L.length = n) (hg : g1 < W.heap.size) (hT : Below W.heap.size W w' → T w') (h : RowP E L W e w') : RowQ E L n T g1 W e w' := by
  subst hn
  obtain ⟨q, rfl, h1, h2⟩ := h
  exact ⟨q, rfl, Lib.hid (OwnR.low h1 hg), Lib.hid h2, hT h2⟩

set_option maxHeartbeats 8000000 in
theorem own_any2 (k : Int) (S : ByteArray) (ql : Option Addr) (nl cl : Nat) (qh : Option Addr) (nh ch : Nat) (qz : Option Addr) (nz cz : Nat) (d : V) (w : World) (H : VIn w k S ql nl cl qh nh ch qz nz cz d) :
    Calls Tryd.prog 26 #[.agg #[.int .u8 k, .string S, .slice ql nl cl, .slice qh nh ch, .slice qz nz cz]] w (OwnP2 d w) := by
  have HC := Lib.hid ((VCells.new w (.int .u8 k) (.string S) (.slice ql nl cl) (.slice qh nh ch) (.slice qz nz cz) w.heap.size rfl).keep (show Below (w.alloc (.cells #[.int .u8 k, .string S, .slice ql nl cl, .slice qh nh ch, .slice qz nz cz] 26)).heap.size _ ((w.alloc (.cells #[.int .u8 k, .string S, .slice ql nl cl, .slice qh nh ch, .slice qz nz cz] 26)).alloc (.cells #[.int .u8 0, .string ⟨#[]⟩, .slice none 0 0, .slice none 0 0, .slice none 0 0] 26)) from (Below.refl _ _).alloc (Nat.le_refl _) _))
  have HZ := Lib.hid (show VCells ((w.alloc (.cells #[.int .u8 k, .string S, .slice ql nl cl, .slice qh nh ch, .slice qz nz cz] 26)).alloc (.cells #[.int .u8 0, .string ⟨#[]⟩, .slice none 0 0, .slice none 0 0, .slice none 0 0] 26)) (w.heap.size + 1) (.int .u8 0) (.string ⟨#[]⟩) (.slice none 0 0) (.slice none 0 0) (.slice none 0 0) from VCells.of (heap_alloc2_new w _ _))
  have HB := Lib.hid (show Below w.heap.size w ((w.alloc (.cells #[.int .u8 k, .string S, .slice ql nl cl, .slice qh nh ch, .slice qz nz cz] 26)).alloc (.cells #[.int .u8 0, .string ⟨#[]⟩, .slice none 0 0, .slice none 0 0, .slice none 0 0] 26)) from ((Below.refl _ _).alloc (Nat.le_refl _) _).alloc (by simp) _)
  have HE := Lib.hid H.ek
  have HSs := Lib.hid H.es
  have HH := Lib.hid H
  have HLn := Lib.hid (show d.l.length = nl ∧ d.h.length = nh ∧ d.z.length = nz from ⟨H.ll, H.lh, H.lz⟩)
  clear H
  go_enter Tryd.func26, Tryd.ntmps26
  go_wp2_with fail
  generalize (w.alloc (.cells #[.int .u8 k, .string S, .slice ql nl cl, .slice qh nh ch, .slice qz nz cz] 26)).alloc (.cells #[.int .u8 0, .string ⟨#[]⟩, .slice none 0 0, .slice none 0 0, .slice none 0 0] 26) = W2 at HC HZ HB ⊢
  generalize hg1 : w.heap.size + 1 = g1 at HZ ⊢
  generalize hb0 : w.heap.size = b0 at HC ⊢
  have HG := Lib.hid (show b0 ≠ g1 by omega)
  have HG2 := Lib.hid (show w.heap.size + 1 ≤ g1 by omega)
  have HG3 := Lib.hid (show w.heap.size ≤ g1 by omega)
  clear hg1 hb0
  have HSV := Lib.hid (show SV w b0 g1 k S ql nl cl qh nh ch qz nz cz W2 from ⟨HB.out, ⟨_, _, _, _, _, HC.out, rfl, rfl, rfl, rfl, rfl⟩, _, _, _, _, _, HZ.out⟩)
  have CA := Lib.hid (fun W (hs : Hid (SV w b0 g1 k S ql nl cl qh nh ch qz nz cz W)) => ((own_s ql d.l nl cl W HH.out.ll (HH.out.rl.keep hs.out.bl) HH.out.fl HH.out.bl HH.out.el).mono (R' := RowQ strE d.l nl (fun W => Hid (SV w b0 g1 k S ql nl cl qh nh ch qz nz cz W)) g1 W) fun _ _ h => rowQ_of HH.out.ll hs.out.lt (fun hb => Lib.hid (hs.out.keep hb)) h))
  have CP := Lib.hid (fun W (hs : Hid (SV w b0 g1 k S ql nl cl qh nh ch qz nz cz W)) => ((own_p qh d.h nh ch W HH.out.lh (HH.out.rh.keep hs.out.bl) HH.out.fh HH.out.bh HH.out.eh).mono (R' := RowQ prE d.h nh (fun W => Hid (SV w b0 g1 k S ql nl cl qh nh ch qz nz cz W)) g1 W) fun _ _ h => rowQ_of HH.out.lh hs.out.lt (fun hb => Lib.hid (hs.out.keep hb)) h))
  have CM := Lib.hid (fun W (hs : Hid (SV w b0 g1 k S ql nl cl qh nh ch qz nz cz W)) => ((own_m qz d.z nz cz W HH.out.lz (HH.out.rz.keep hs.out.bl) HH.out.fz HH.out.bz HH.out.ez).mono (R' := RowQ mkE d.z nz (fun W => Hid (SV w b0 g1 k S ql nl cl qh nh ch qz nz cz W)) g1 W) fun _ _ h => rowQ_of HH.out.lz hs.out.lt (fun hb => Lib.hid (hs.out.keep hb)) h))
  clear HH HC HZ HB
  have s2 : Hid (SV w b0 g1 k S ql nl cl qh nh ch qz nz cz W2.drew) := Lib.hid (HSV.out.keep (Below.refl _ _).drew)
  go_region_held (fun W => Hid (SV w b0 g1 k S ql nl cl qh nh ch qz nz cz W) ∧ Below w.heap.size w W ∧ W.cell? ⟨b0, 0, none⟩ = some (.int .u8 k) ∧ W.cell? ⟨b0, 1, none⟩ = some (.string S) ∧ W.cell? ⟨b0, 2, none⟩ = some (.slice ql nl cl) ∧ W.cell? ⟨b0, 3, none⟩ = some (.slice qh nh ch) ∧ W.cell? ⟨b0, 4, none⟩ = some (.slice qz nz cz) ∧ W.cell? ⟨g1, 0, none⟩ = some (atD W ⟨g1, 0, none⟩) ∧ W.cell? ⟨g1, 1, none⟩ = some (atD W ⟨g1, 1, none⟩) ∧ W.cell? ⟨g1, 2, none⟩ = some (atD W ⟨g1, 2, none⟩) ∧ W.cell? ⟨g1, 3, none⟩ = some (atD W ⟨g1, 3, none⟩) ∧ W.cell? ⟨g1, 4, none⟩ = some (atD W ⟨g1, 4, none⟩) ∧ W.frozen? ⟨g1, 0, none⟩ = false ∧ W.frozen? ⟨g1, 1, none⟩ = false ∧ W.frozen? ⟨g1, 2, none⟩ = false ∧ W.frozen? ⟨g1, 3, none⟩ = false ∧ W.frozen? ⟨g1, 4, none⟩ = false) (first | exact ⟨by assumption, SV.tell (Hid.out (by assumption))⟩ | exact ⟨Lib.hid (SV.put (Hid.out (by assumption)) HG.out HG3.out _ _ _ _ _), SV.tell (SV.put (Hid.out (by assumption)) HG.out HG3.out _ _ _ _ _)⟩)
    (first
    | (go_at_call 36; (with_reducible refine (CA.out _ (by first | assumption | exact And.left (by assumption))).mono ?_); rintro e wA ⟨qa, rfl, hA, kA, sA⟩)
    | (go_at_call 37; (with_reducible refine (CP.out _ (by first | assumption | exact And.left (by assumption))).mono ?_); rintro e wB ⟨qb, rfl, hB, kB, sB⟩)
    | (go_at_call 38; (with_reducible refine (CM.out _ (by first | assumption | exact And.left (by assumption))).mono ?_); rintro e wC ⟨qc, rfl, hC, kC, sC⟩))
  all_goals
    rename_i hheld
    clear hheld
    obtain ⟨y0, y1, y2, y3, y4, h4⟩ := sC.out.ro
    have HCs := Lib.hid (show (Tryd.prog.info? 26).map (·.size) = some (#[.int .u8 k, .string S, .slice qa nl nl, .slice qb nh nh, .slice qc nz nz] : Array Value).size from val_size)
    have HHe := Lib.hid (val_five h4.hp (.int .u8 k) (.string S) (.slice qa nl nl) (.slice qb nh nh) (.slice qc nz nz))
    have HEn := Lib.hid (own_end (w6 := wC) HE.out HSs.out sC.out.bl HG2.out (Nat.lt_succ_self _) (Nat.lt_succ_self _) (Nat.lt_succ_self _) (OwnR.keep (OwnR.keep hA.out kB.out) kC.out) (OwnR.keep hB.out kC.out) hC.out ⟨qa, by rw [HLn.out.1]⟩ ⟨qb, by rw [HLn.out.2.1]⟩ ⟨qc, by rw [HLn.out.2.2]⟩)
    clear h4
    go_wp2_with fail
    exact bodyPost_ret (results_cell_row rfl _ _ g1 26 #[.int .u8 k, .string S, .slice qa nl nl, .slice qb nh nh, .slice qc nz nz] (0, 0) _ rfl HHe.out Tryd.underlying26 rfl HCs.out) rfl HEn.out
theorem own_any (k : Int) (S : ByteArray) (ql : Option Addr) (nl cl : Nat) (qh : Option Addr) (nh ch : Nat) (qz : Option Addr) (nz cz : Nat) (d : V) (w : World) (H : VIn w k S ql nl cl qh nh ch qz nz cz d) :
    Calls Tryd.prog 26 #[.agg #[.int .u8 k, .string S, .slice ql nl cl, .slice qh nh ch, .slice qz nz cz]] w (OwnP d w) :=
  (own_any2 k S ql nl cl qh nh ch qz nz cz d w H).mono fun e w' h => OwnP2.p h

end Go.Proofs.YtodpocciimbjbaaDoor.ValM
