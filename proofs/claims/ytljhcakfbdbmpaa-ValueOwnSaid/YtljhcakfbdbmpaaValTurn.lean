/-
  A copy of a value whose rows are changed record by record, beside the value itself.
-/
import Derived.Test.YtljhcakfbdbmpaaValFit
namespace Go.Proofs.Ytljhcakfbdbmpaa.ValL
open Go.Sort Go.RowKit Kit StrT RowG BOrd ValT RefV ValM
set_option linter.unusedVariables false
set_option maxRecDepth 100000

def fL (s : List UInt8) : List UInt8 := s ++ [122]
def fP (p : Pr) : Pr := ⟨p.name, p.val ++ [122]⟩
def fM (m : Mk) : Mk := ⟨m.name ++ [122], m.n⟩
theorem grow_ne (s : List UInt8) : s ++ [122] ≠ s := fun h => by
  have := congrArg List.length h
  simp at this
theorem map_ne {α : Type} {f : α → α} (hf : ∀ a, f a ≠ a) (L : List α) : L.map f = L ↔ L = [] := by
  cases L with
  | nil => simp
  | cons a r =>
    constructor
    · intro h
      injection h with h1 h2
      exact absurd h1 (hf a)
    · intro h
      cases h
theorem same_own (d : V) : sameB ⟨d.kind, d.s, d.l.map fL, d.h.map fP, d.z.map fM⟩ d = decide (d.l.length + d.h.length + d.z.length = 0) := by
  unfold sameB
  rw [Bool.eq_iff_iff, decide_eq_true_iff, decide_eq_true_iff, v_eq]
  simp only [true_and]
  rw [map_ne (f := fL) (fun a => grow_ne a), map_ne (f := fP) (fun a h => grow_ne a.val (congrArg Pr.val h)), map_ne (f := fM) (fun a h => grow_ne a.name (congrArg Mk.name h))]
  constructor
  · rintro ⟨h1, h2, h3⟩
    rw [h1, h2, h3]
    rfl
  · intro h
    exact ⟨List.eq_nil_of_length_eq_zero (by omega), List.eq_nil_of_length_eq_zero (by omega), List.eq_nil_of_length_eq_zero (by omega)⟩
/-- The first so many records changed. -/
def upd {α : Type} (f : α → α) (L : List α) (k : Nat) : List α := (L.take k).map f ++ L.drop k
theorem upd_zero {α : Type} (f : α → α) (L : List α) : upd f L 0 = L := by simp [upd]
theorem upd_all {α : Type} (f : α → α) (L : List α) (k : Nat) (h : L.length ≤ k) : upd f L k = L.map f := by
  unfold upd
  rw [List.take_of_length_le h, List.drop_of_length_le h, List.append_nil]
theorem upd_len {α : Type} (f : α → α) (L : List α) (k : Nat) : (upd f L k).length = L.length := by
  unfold upd
  simp only [List.length_append, List.length_map, List.length_take, List.length_drop]
  omega
theorem upd_split {α : Type} (f : α → α) (L : List α) (k : Nat) (h : k < L.length) : upd f L k = (L.take k).map f ++ L[k] :: L.drop (k + 1) := by
  unfold upd
  rw [List.drop_eq_getElem_cons h]
theorem upd_at {α : Type} (f : α → α) (L : List α) (k : Nat) (h : k < L.length) : (upd f L k)[k]'(by rw [upd_len]; exact h) = L[k] := by
  have hl : ((L.take k).map f).length = k := by rw [List.length_map, List.length_take]; omega
  have e := upd_split f L k h
  have h2 : (upd f L k)[k]? = some L[k] := by
    rw [e, List.getElem?_append_right (by omega), hl, Nat.sub_self]
    rfl
  exact (List.getElem?_eq_some_iff.1 h2).2
theorem upd_succ {α : Type} (f : α → α) (L : List α) (k : Nat) (h : k < L.length) : (upd f L k).set k (f L[k]) = upd f L (k + 1) := by
  have hl : ((L.take k).map f).length = k := by rw [List.length_map, List.length_take]; omega
  rw [upd_split f L k h, List.set_append_right _ _ (by omega), hl, Nat.sub_self]
  unfold upd
  rw [List.take_succ_eq_append_getElem h, List.map_append, List.append_assoc]
  rfl
theorem ownB_ne {α β : Type} {E : Enc α} {F : Enc β} {w : World} {g g' n n' c c' : Nat} {L : List α} {M : List β} (h : OwnB E w g n c L) (h' : OwnB F w g' n' c' M) (ht : E.ty ≠ F.ty) : g ≠ g' := by
  obtain ⟨-, -, cur, h1, -⟩ := h
  obtain ⟨-, -, cur', h2, -⟩ := h'
  intro e
  rw [e, h2] at h1
  injection h1 with h1
  injection h1 with _ h3 _
  exact ht h3.symm
/-- One row of the copy: in a block of its own, if there is something in it. -/
def RowW {α : Type} (E : Enc α) (b gc : Nat) (W : World) (q : Option Addr) (n cap : Nat) (L : List α) : Prop :=
  L.length = n ∧ n ≤ cap ∧ cap ≤ 9223372036854775807 ∧ (q = none → cap = 0) ∧ (L = [] ∨ ∃ g, q = some ⟨g, 0, none⟩ ∧ b ≤ g ∧ g ≠ gc ∧ OwnB E W g n cap L)
theorem RowW.keep {α : Type} {E : Enc α} {b gc : Nat} {W W' : World} {q : Option Addr} {n cap : Nat} {L : List α} (h : RowW E b gc W q n cap L) (hb : Below W.heap.size W W') : RowW E b gc W' q n cap L := by
  obtain ⟨h1, h2, h3, h4, h5⟩ := h
  refine ⟨h1, h2, h3, h4, ?_⟩
  rcases h5 with h5 | ⟨g, e, hg, hc, ho⟩
  · exact Or.inl h5
  · exact Or.inr ⟨g, e, hg, hc, ho.keep hb⟩
theorem RowW.other {α β : Type} {E : Enc α} {F : Enc β} {b gc : Nat} {W : World} {q : Option Addr} {n cap : Nat} {L : List α} (h : RowW E b gc W q n cap L) {g n' c' : Nat} {M : List β} (ho : OwnB F W g n' c' M) (ht : E.ty ≠ F.ty) (j : Nat) (u : Value) : RowW E b gc (W.setCell ⟨g, j, none⟩ u) q n cap L := by
  obtain ⟨h1, h2, h3, h4, h5⟩ := h
  refine ⟨h1, h2, h3, h4, ?_⟩
  rcases h5 with h5 | ⟨g2, e, hg, hc, h6⟩
  · exact Or.inl h5
  · exact Or.inr ⟨g2, e, hg, hc, h6.other _ _ (ownB_ne h6 ho ht)⟩
theorem RowW.rs {α : Type} {E : Enc α} {b gc : Nat} {W : World} {q : Option Addr} {n cap : Nat} {L : List α} (h : RowW E b gc W q n cap L) : Rs E W q L := by
  rcases h.2.2.2.2 with h5 | ⟨g, e, hg, hc, ho⟩
  · rw [h5]; exact Rs.nil _ _ _
  · rw [e]; exact ho.rs
theorem RowW.full {α : Type} {E : Enc α} {b gc : Nat} {W : World} {q : Option Addr} {n cap : Nat} {L : List α} (h : RowW E b gc W q n cap L) (k : Nat) (hk : k < L.length) : ∃ g, q = some ⟨g, 0, none⟩ ∧ b ≤ g ∧ g ≠ gc ∧ OwnB E W g n cap L := by
  rcases h.2.2.2.2 with h5 | h5
  · rw [h5] at hk
    exact absurd hk (by simp)
  · exact h5
theorem RowO.roww {α : Type} {E : Enc α} {b gc : Nat} {W : World} {v : Value} {L : List α} (h : RowO E b W v L) (hgc : W.heap.size ≤ gc) : ∃ q c, v = .slice q L.length c ∧ RowW E b gc W q L.length c L := by
  obtain ⟨q, c, rfl, h1, h2, h3, h4⟩ := h
  refine ⟨q, c, rfl, rfl, h1, h2, h3, ?_⟩
  rcases h4 with h4 | ⟨g, e, hg, ho⟩
  · exact Or.inl h4
  · exact Or.inr ⟨g, e, hg, by have := ho.lt; omega, ho⟩
theorem ty_lp : strE.ty ≠ prE.ty := by decide
theorem ty_lm : strE.ty ≠ mkE.ty := by decide
theorem ty_pm : prE.ty ≠ mkE.ty := by decide
/-- The copy, its rows, and all that was there before. -/
structure CS (w W : World) (gc : Nat) (n : Array Value) (ql : Option Addr) (nl cl : Nat) (qh : Option Addr) (nh ch : Nat) (qz : Option Addr) (nz cz : Nat) (L : List (List UInt8)) (H : List Pr) (Z : List Mk) : Prop where
  bl : Below w.heap.size w W
  cb : W.heap[gc]? = some (.cells n 26 (0, 0))
  gt : w.heap.size ≤ gc
  l : RowW strE w.heap.size gc W ql nl cl L
  h : RowW prE w.heap.size gc W qh nh ch H
  z : RowW mkE w.heap.size gc W qz nz cz Z
variable {w W W' : World} {gc : Nat} {n : Array Value} {ql : Option Addr} {nl cl : Nat} {qh : Option Addr} {nh ch : Nat} {qz : Option Addr} {nz cz : Nat} {L : List (List UInt8)} {H : List Pr} {Z : List Mk}
theorem CS.keep (h : CS w W gc n ql nl cl qh nh ch qz nz cz L H Z) (hb : Below W.heap.size W W') : CS w W' gc n ql nl cl qh nh ch qz nz cz L H Z :=
  ⟨h.bl.trans (hb.mono h.bl.size), by rw [hb.block gc (Array.getElem?_eq_some_iff.1 h.cb).1]; exact h.cb, h.gt, h.l.keep hb, h.h.keep hb, h.z.keep hb⟩
theorem CS.setL (h : CS w W gc n ql nl cl qh nh ch qz nz cz L H Z) (k : Nat) (hk : k < L.length) (a : List UInt8) (u : Value) (hu : u = .string ⟨a.toArray⟩) {g : Nat} (hg : ql = some ⟨g, 0, none⟩) : CS w (W.setCell ⟨g, k, none⟩ u) gc n ql nl cl qh nh ch qz nz cz (L.set k a) H Z := by
  subst hu
  obtain ⟨g2, e, hb, hc, ho⟩ := h.l.full k hk
  obtain rfl : g2 = g := by rw [hg] at e; injection e with e; injection e with e; exact e.symm
  have h1 := ho.set k 0 a (.string ⟨a.toArray⟩) hk (by decide) rfl
  rw [show k * strE.sz + 0 = k from by show k * 1 + 0 = k; omega] at h1
  refine ⟨h.bl.setCell hb _, by rw [heap_setCell_other _ _ _ _ (by exact fun e => hc e.symm)]; exact h.cb, h.gt, ?_, h.h.other ho ty_lp.symm _ _, h.z.other ho ty_lm.symm _ _⟩
  exact ⟨by rw [List.length_set]; exact h.l.1, h.l.2.1, h.l.2.2.1, h.l.2.2.2.1, Or.inr ⟨g2, e, hb, hc, h1⟩⟩
theorem CS.setH (h : CS w W gc n ql nl cl qh nh ch qz nz cz L H Z) (k : Nat) (hk : k < H.length) (a : Pr) (u : Value) (hu : u = .string ⟨a.val.toArray⟩) (ha : a.name = H[k].name) {g : Nat} (hg : qh = some ⟨g, 0, none⟩) : CS w (W.setCell ⟨g, k * 2 + 1, none⟩ u) gc n ql nl cl qh nh ch qz nz cz L (H.set k a) Z := by
  subst hu
  obtain ⟨g2, e, hb, hc, ho⟩ := h.h.full k hk
  obtain rfl : g2 = g := by rw [hg] at e; injection e with e; injection e with e; exact e.symm
  have h1 := ho.set k 1 a (.string ⟨a.val.toArray⟩) hk (by decide) (by show [Value.string ⟨a.name.toArray⟩, _] = _; rw [ha]; rfl)
  refine ⟨h.bl.setCell hb _, by rw [heap_setCell_other _ _ _ _ (by exact fun e => hc e.symm)]; exact h.cb, h.gt, h.l.other ho ty_lp _ _, ?_, h.z.other ho ty_pm.symm _ _⟩
  exact ⟨by rw [List.length_set]; exact h.h.1, h.h.2.1, h.h.2.2.1, h.h.2.2.2.1, Or.inr ⟨g2, e, hb, hc, h1⟩⟩
theorem CS.setZ (h : CS w W gc n ql nl cl qh nh ch qz nz cz L H Z) (k : Nat) (hk : k < Z.length) (a : Mk) (u : Value) (hu : u = .string ⟨a.name.toArray⟩) (ha : a.n = Z[k].n) {g : Nat} (hg : qz = some ⟨g, 0, none⟩) : CS w (W.setCell ⟨g, k * 2, none⟩ u) gc n ql nl cl qh nh ch qz nz cz L H (Z.set k a) := by
  subst hu
  obtain ⟨g2, e, hb, hc, ho⟩ := h.z.full k hk
  obtain rfl : g2 = g := by rw [hg] at e; injection e with e; injection e with e; exact e.symm
  have h1 := ho.set k 0 a (.string ⟨a.name.toArray⟩) hk (by decide) (by show [_, Value.int .i64 a.n] = _; rw [ha]; rfl)
  refine ⟨h.bl.setCell hb _, by rw [heap_setCell_other _ _ _ _ (by exact fun e => hc e.symm)]; exact h.cb, h.gt, h.l.other ho ty_lm _ _, h.h.other ho ty_pm _ _, ?_⟩
  exact ⟨by rw [List.length_set]; exact h.z.1, h.z.2.1, h.z.2.2.1, h.z.2.2.2.1, Or.inr ⟨g2, e, hb, hc, h1⟩⟩
theorem CS.vin (h : CS w W gc n ql nl cl qh nh ch qz nz cz L H Z) (k : Nat) (S : ByteArray) (hk : k ≤ 255) (h1 : nl ≤ 1048576) (h2 : nh ≤ 1048576) (h3 : nz ≤ 1048576) : VIn W (k : Int) S ql nl cl qh nh ch qz nz cz ⟨k, S.data.toList, L, H, Z⟩ :=
  ⟨rfl, hk, rfl, h.l.rs, h.h.rs, h.z.rs, h.l.1, h.h.1, h.z.1, h1, h2, h3, h.l.2.1, h.h.2.1, h.z.2.1, h.l.2.2.1, h.h.2.2.1, h.z.2.2.1, h.l.2.2.2.1, h.h.2.2.2.1, h.z.2.2.2.1⟩
end Go.Proofs.Ytljhcakfbdbmpaa.ValL
