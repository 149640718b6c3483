/-
  Do by each command of layer 14, and what its laws share.
-/
import Derived.Test.YtmdkegamfjkfbaaDoorSetDos
import Derived.Test.YtmdkegamfjkfbaaDoorLawKit
import Derived.Test.YtmdkegamfjkfbaaDoorRefInt
import Derived.Test.YtmdkegamfjkfbaaDoorRefTexts
import Derived.Deep.QuietTactic
import Derived.Deep.DeepCutAuto
import Derived.BigQuiet
import Derived.StillTailTactics
import Derived.Deep.RegionLaw
namespace Go.Proofs.YtmdkegamfjkfbaaDoor.SetM
open Go.RowKit Kit StrT RowG BOrd ValT StoT ReplyT ReplyMath ValM BytesIn DoT Low LstT SetT NumL ReplyM LawK DoV
set_option linter.unusedVariables false
set_option maxRecDepth 100000

theorem take_wd {A : List (List UInt8)} {k : Nat} (h : k < A.length) : A.take (k + 1) = A.take k ++ [wd A k] := by
  rw [List.take_succ_eq_append_getElem h]
  unfold wd
  rw [List.getD_eq_getElem?_getD, List.getElem?_eq_getElem h]
  rfl
theorem add_any (w0 w : World) (q : Option Addr) (n c : Nat) (L : List (List UInt8)) (qw : Option Addr) (nw cw : Nat) (A : List (List UInt8)) (b1 b2 : Nat) (h : RowI w0 w q n c L) (hW : WS w0 qw nw cw A) (hg : Gt w0) (hx : Bxs w b1 b2) (ht : Tame 0 L A) :
    Calls Tryd.prog 50 (#[.slice q n c, .slice qw nw cw] ++ #[.pointer (some ⟨b1, 0, none⟩)]) w (RowD w0 (rowD 0 L A)) := by
  obtain ⟨hu, hz⟩ := ht
  have hz : L.length + A.length ≤ 1048576 := hz
  have hn := h.ln
  have hwn := hW.wn
  have e : A.take nw = A := List.take_of_length_le (by omega)
  have hl := add_le A hu
  have h2 := each_any 31 (fun args W => by kernel_rfl) (fun k => addS L (A.take k)) w0 w q n c L qw nw cw b1 A (((addS L A).length : Int) - (n : Int)) h hW hg hx.x1 rfl (by omega) (fun k hk W q n c X hR hX => by
    have e2 : addS L (A.take (k + 1)) = insS (addS L (A.take k)) X.data.toList := by rw [take_wd (by omega), add_snoc, hX]
    rw [e2]
    refine with_any w0 W q n c _ X hR ?_
    have h3 := add_le (A.take k) hu
    have h4 := hR.ln
    rw [List.length_take] at h3
    omega) (by rw [e]; omega)
  rw [show rowD 0 L A = (addS L (A.take nw), int (((addS L A).length : Int) - (n : Int))) by rw [e, ← hn]; rfl]
  exact h2
theorem rem_any (w0 w : World) (q : Option Addr) (n c : Nat) (L : List (List UInt8)) (qw : Option Addr) (nw cw : Nat) (A : List (List UInt8)) (b1 b2 : Nat) (h : RowI w0 w q n c L) (hW : WS w0 qw nw cw A) (hg : Gt w0) (hx : Bxs w b1 b2) (ht : Tame 1 L A) :
    Calls Tryd.prog 50 (#[.slice q n c, .slice qw nw cw] ++ #[.pointer (some ⟨b2, 0, none⟩)]) w (RowD w0 (rowD 1 L A)) := by
  obtain ⟨hu, hz⟩ := ht
  have hz : A.length ≤ 1048576 := hz
  have hn := h.ln
  have hwn := hW.wn
  have e : A.take nw = A := List.take_of_length_le (by omega)
  have hl := rem_le L A
  have h2 := each_any 30 (fun args W => by kernel_rfl) (fun k => remS L (A.take k)) w0 w q n c L qw nw cw b2 A ((n : Int) - ((remS L A).length : Int)) h hW hg hx.x2 (rem_nil L) (by omega) (fun k hk W q n c X hR hX => by
    have e2 : remS L (A.take (k + 1)) = remS (remS L (A.take k)) [X.data.toList] := by rw [take_wd (by omega), rem_snoc, hX]
    rw [e2]
    exact without_any w0 W q n c _ X hR) (by rw [e]; omega)
  rw [show rowD 1 L A = (remS L (A.take nw), int ((n : Int) - ((remS L A).length : Int))) by rw [e, ← hn]; rfl]
  exact h2
theorem do_any (i : Nat) (hi : i < 5) (p : PV) (q : Option Addr) (L : List (List UInt8)) (n c : Nat) (w : World) (hp : p.In w) (hS : p.S.size ≤ 1048576) (hg : Gt w) (hn : L.length = n) (hc : n ≤ c) (hm : needD i ≤ n) (hs : StrT.Ss w q L) (hw : (wd L 0).length ≤ 140737488351232) (hnm : nmL L = nameD i) (ht : (p.d.kind = 0 ∨ p.d.kind = 4) → Tame i p.d.l (L.drop 2)) :
    Calls Tryd.prog 11 #[p.agg, .slice q n c] w (DoN (doD i p.d L).1 (doD i p.d L).2 w) := by
  have h2 : 2 ≤ needD i := by unfold needD; split <;> omega
  refine Calls.mono ?_ (fun e w' h => doP_n h)
  rcases kinds p.d with hk | hk
  · rw [doD_right hk]
    have ht := ht hk
    match i, hi, hm, ht, hnm with
    | 0, _, hm, ht, hnm => exact do_right 0 nSadd 3 50 (fun args W => by kernel_rfl) (fun b1 _ => #[.pointer (some ⟨b1, 0, none⟩)]) (fun b1 b2 Z => by kernel_rfl) (fun w0 w ql nl cl L qw nw cw A b1 b2 h1 h2 h3 h4 h5 => add_any w0 w ql nl cl L qw nw cw A b1 b2 h1 h2 h3 h4 h5) p q L n c w hp hS hg hn hc (by omega) (by have : 3 ≤ n := hm; omega) hs hw hnm hk ht
    | 1, _, hm, ht, hnm => exact do_right 1 nSrem 3 50 (fun args W => by kernel_rfl) (fun _ b2 => #[.pointer (some ⟨b2, 0, none⟩)]) (fun b1 b2 Z => by kernel_rfl) (fun w0 w ql nl cl L qw nw cw A b1 b2 h1 h2 h3 h4 h5 => rem_any w0 w ql nl cl L qw nw cw A b1 b2 h1 h2 h3 h4 h5) p q L n c w hp hS hg hn hc (by omega) (by have : 3 ≤ n := hm; omega) hs hw hnm hk ht
    | 2, _, hm, ht, hnm => exact do_right 2 nSismember 3 40 (fun args W => by kernel_rfl) (fun _ _ => #[]) (fun b1 b2 Z => by kernel_rfl) (fun w0 w ql nl cl L qw nw cw A b1 b2 h1 h2 h3 h4 h5 => isMember_any w0 w ql nl cl L qw nw cw A h1 h2 h3 h5) p q L n c w hp hS hg hn hc (by omega) (by have : 3 ≤ n := hm; omega) hs hw hnm hk ht
    | 3, _, hm, ht, hnm => exact do_right 3 nSmembers 2 41 (fun args W => by kernel_rfl) (fun _ _ => #[]) (fun b1 b2 Z => by kernel_rfl) (fun w0 w ql nl cl L qw nw cw A b1 b2 h1 h2 h3 h4 h5 => members_any w0 w ql nl cl L qw nw cw A h1 h2 h3 h5) p q L n c w hp hS hg hn hc (by omega) (by have : 2 ≤ n := hm; omega) hs hw hnm hk ht
    | 4, _, hm, ht, hnm => exact do_right 4 nScard 2 42 (fun args W => by kernel_rfl) (fun _ _ => #[]) (fun b1 b2 Z => by kernel_rfl) (fun w0 w ql nl cl L qw nw cw A b1 b2 h1 h2 h3 h4 h5 => count_any w0 w ql nl cl L qw nw cw A h1 h2 h3 h5) p q L n c w hp hS hg hn hc (by omega) (by have : 2 ≤ n := hm; omega) hs hw hnm hk ht
  · rw [doD_wrong hk]
    match i, hi, hm, hnm with
    | 0, _, hm, hnm => exact do_wrong nSadd 3 50 (fun b1 _ => #[.pointer (some ⟨b1, 0, none⟩)]) (fun b1 b2 Z => by kernel_rfl) p q L n c w hp hS hg hn (by omega) (by have : 3 ≤ n := hm; omega) hs hw hnm hk
    | 1, _, hm, hnm => exact do_wrong nSrem 3 50 (fun _ b2 => #[.pointer (some ⟨b2, 0, none⟩)]) (fun b1 b2 Z => by kernel_rfl) p q L n c w hp hS hg hn (by omega) (by have : 3 ≤ n := hm; omega) hs hw hnm hk
    | 2, _, hm, hnm => exact do_wrong nSismember 3 40 (fun _ _ => #[]) (fun b1 b2 Z => by kernel_rfl) p q L n c w hp hS hg hn (by omega) (by have : 3 ≤ n := hm; omega) hs hw hnm hk
    | 3, _, hm, hnm => exact do_wrong nSmembers 2 41 (fun _ _ => #[]) (fun b1 b2 Z => by kernel_rfl) p q L n c w hp hS hg hn (by omega) (by have : 2 ≤ n := hm; omega) hs hw hnm hk
    | 4, _, hm, hnm => exact do_wrong nScard 2 42 (fun _ _ => #[]) (fun b1 b2 Z => by kernel_rfl) p q L n c w hp hS hg hn (by omega) (by have : 2 ≤ n := hm; omega) hs hw hnm hk

end Go.Proofs.YtmdkegamfjkfbaaDoor.SetM
namespace Go.Proofs.YtmdkegamfjkfbaaDoor.SetL
open Go.RowKit Kit StrT RowG BOrd ValT StoT ReplyT ReplyMath ValM BytesIn DoT Low SetT NumL NumMath SetM SaidT RefR DoV LawK
set_option linter.unusedVariables false
set_option maxRecDepth 100000

theorem don_to {f : FuncId} {ar : Array Value} {W0 W : World} {x : List (List UInt8) × List UInt8} {L' : List (List UInt8)} {l' : List UInt8} (h : x = (L', l')) (c : Calls Tryd.prog f ar W0 (DoN (setV x.1) x.2 W)) : Calls Tryd.prog f ar W0 (DoN (setV L') l' W) := by
  rw [h] at c
  exact c
theorem set_S {w : World} {p : PV} {L : List (List UInt8)} (hp : p.In w) (hd : p.d = setV L) : p.S = ⟨#[]⟩ := by
  refine same_bytes ?_
  rw [show p.S.data.toList = p.d.s from VIn.es hp, hd, setV_s]
theorem on_set {p : PV} {L : List (List UInt8)} (i : Nat) (W : List (List UInt8)) (hd : p.d = setV L) : doD i p.d W = (setV (rowD i L (W.drop 2)).1, (rowD i L (W.drop 2)).2) := by
  rw [hd, doD_right (setV_kind L), setV_l]
/-- Do, of a set, with words that lie wherever. -/
theorem onR (i : Nat) (hi : i < 5) (p : PV) (L : List (List UInt8)) (nm kk : ByteArray) (A : List (List UInt8)) (q : Option Addr) (n c : Nat) (w : World) (hp : p.In w) (hd : p.d = setV L) (hg : Gt w) (hn : 2 + A.length = n) (hc : n ≤ c) (hm : needD i ≤ n) (hs : StrT.Ss w q (nm.data.toList :: kk.data.toList :: A)) (hz : nm.size ≤ 140737488351232) (hnm : lowL nm.data.toList = nameD i) (ht : Tame i L A) :
    Calls Tryd.prog 11 #[p.agg, .slice q n c] w (DoN (setV (rowD i L A).1) (rowD i L A).2 w) := by
  have h := do_any i hi p q (nm.data.toList :: kk.data.toList :: A) n c w hp (by rw [set_S hp hd]; decide) hg (by simp only [List.length_cons]; omega) hc hm hs (by show nm.data.toList.length ≤ _; rw [str_len]; exact hz) hnm (fun _ => by rw [hd, setV_l]; exact ht)
  rw [on_set i _ hd] at h
  exact h
theorem on2 (i : Nat) (hi : i < 5) (nm kk : ByteArray) (hnm : lowL nm.data.toList = nameD i) (hz : nm.size ≤ 140737488351232) (h2 : needD i ≤ 2) (p : PV) (L : List (List UInt8)) (w Y : World) (hY : Below (w.alloc (.cells #[.string nm, .string kk] 9)).heap.size (w.alloc (.cells #[.string nm, .string kk] 9)) Y) (hp : p.In w) (hd : p.d = setV L) (hg : Gt w) (ht : Tame i L []) :
    Calls Tryd.prog 11 #[p.agg, .slice (some ⟨w.heap.size, 0, none⟩) 2 2] Y (DoN (setV (rowD i L []).1) (rowD i L []).2 w) :=
  (onR i hi p L nm kk [] _ 2 2 _ (pv_keep (pv_keep hp (Kit.below1 _ _)) hY) hd ((hg.keep (Kit.below1 _ _)).keep hY) rfl (Nat.le_refl _) h2 ((ss2_new w nm kk).keep hY) hz hnm ht).mono fun e w' h => doN_w h ((Kit.below1 _ _).trans (hY.mono (Below.size (Kit.below1 _ _))))
theorem on3 (i : Nat) (hi : i < 5) (nm kk x : ByteArray) (hnm : lowL nm.data.toList = nameD i) (hz : nm.size ≤ 140737488351232) (h2 : needD i ≤ 3) (p : PV) (L : List (List UInt8)) (w Y : World) (hY : Below (w.alloc (.cells #[.string nm, .string kk, .string x] 9)).heap.size (w.alloc (.cells #[.string nm, .string kk, .string x] 9)) Y) (hp : p.In w) (hd : p.d = setV L) (hg : Gt w) (ht : Tame i L [x.data.toList]) :
    Calls Tryd.prog 11 #[p.agg, .slice (some ⟨w.heap.size, 0, none⟩) 3 3] Y (DoN (setV (rowD i L [x.data.toList]).1) (rowD i L [x.data.toList]).2 w) :=
  (onR i hi p L nm kk [x.data.toList] _ 3 3 _ (pv_keep (pv_keep hp (Kit.below1 _ _)) hY) hd ((hg.keep (Kit.below1 _ _)).keep hY) rfl (Nat.le_refl _) h2 ((ss3_new w nm kk x).keep hY) hz hnm ht).mono fun e w' h => doN_w h ((Kit.below1 _ _).trans (hY.mono (Below.size (Kit.below1 _ _))))
theorem on4 (i : Nat) (hi : i < 5) (nm kk x y : ByteArray) (hnm : lowL nm.data.toList = nameD i) (hz : nm.size ≤ 140737488351232) (h2 : needD i ≤ 4) (p : PV) (L : List (List UInt8)) (w Y : World) (hY : Below (w.alloc (.cells #[.string nm, .string kk, .string x, .string y] 9)).heap.size (w.alloc (.cells #[.string nm, .string kk, .string x, .string y] 9)) Y) (hp : p.In w) (hd : p.d = setV L) (hg : Gt w) (ht : Tame i L [x.data.toList, y.data.toList]) :
    Calls Tryd.prog 11 #[p.agg, .slice (some ⟨w.heap.size, 0, none⟩) 4 4] Y (DoN (setV (rowD i L [x.data.toList, y.data.toList]).1) (rowD i L [x.data.toList, y.data.toList]).2 w) :=
  (onR i hi p L nm kk [x.data.toList, y.data.toList] _ 4 4 _ (pv_keep (pv_keep hp (Kit.below1 _ _)) hY) hd ((hg.keep (Kit.below1 _ _)).keep hY) rfl (Nat.le_refl _) h2 ((ss4_new w nm kk x y).keep hY) hz hnm ht).mono fun e w' h => doN_w h ((Kit.below1 _ _).trans (hY.mono (Below.size (Kit.below1 _ _))))
theorem ss5_new (w : World) (a b c d e : ByteArray) : StrT.Ss (w.alloc (.cells #[.string a, .string b, .string c, .string d, .string e] 9)) (some ⟨w.heap.size, 0, none⟩) [a.data.toList, b.data.toList, c.data.toList, d.data.toList, e.data.toList] := by
  intro _
  refine ⟨w.heap.size, 0, rfl, by simp, fun j hj => ?_⟩
  match j, hj with
  | 0, _ => simp [World.cell?_alloc_mark]
  | 1, _ => simp [World.cell?_alloc_mark]
  | 2, _ => simp [World.cell?_alloc_mark]
  | 3, _ => simp [World.cell?_alloc_mark]
  | 4, _ => simp [World.cell?_alloc_mark]
  | j + 5, hj => exact absurd (show j + 5 < 5 from hj) (by omega)
theorem on5 (i : Nat) (hi : i < 5) (nm kk x y z : ByteArray) (hnm : lowL nm.data.toList = nameD i) (hz : nm.size ≤ 140737488351232) (h2 : needD i ≤ 5) (p : PV) (L : List (List UInt8)) (w Y : World) (hY : Below (w.alloc (.cells #[.string nm, .string kk, .string x, .string y, .string z] 9)).heap.size (w.alloc (.cells #[.string nm, .string kk, .string x, .string y, .string z] 9)) Y) (hp : p.In w) (hd : p.d = setV L) (hg : Gt w) (ht : Tame i L [x.data.toList, y.data.toList, z.data.toList]) :
    Calls Tryd.prog 11 #[p.agg, .slice (some ⟨w.heap.size, 0, none⟩) 5 5] Y (DoN (setV (rowD i L [x.data.toList, y.data.toList, z.data.toList]).1) (rowD i L [x.data.toList, y.data.toList, z.data.toList]).2 w) :=
  (onR i hi p L nm kk [x.data.toList, y.data.toList, z.data.toList] _ 5 5 _ (pv_keep (pv_keep hp (Kit.below1 _ _)) hY) hd ((hg.keep (Kit.below1 _ _)).keep hY) rfl (Nat.le_refl _) h2 ((ss5_new w nm kk x y z).keep hY) hz hnm ht).mono fun e w' h => doN_w h ((Kit.below1 _ _).trans (hY.mono (Below.size (Kit.below1 _ _))))
/-- The texts of a set in memory. -/
theorem pv_strs {w : World} {p : PV} {L : List (List UInt8)} (h : p.In w) (hd : p.d = setV L) : p.nl = L.length ∧ p.nl ≤ p.cl ∧ StrT.Ss w p.ql L := by
  have e : p.d.l = L := by rw [hd, setV_l]
  have h0 : p.d.l.length = p.nl := VIn.ll h
  have h1 : p.nl ≤ p.cl := VIn.bl h
  have h4 : Rs strE w p.ql p.d.l := VIn.rl h
  rw [e] at h0 h4
  exact ⟨h0.symm, h1, rs_ss.1 h4⟩

end Go.Proofs.YtmdkegamfjkfbaaDoor.SetL
