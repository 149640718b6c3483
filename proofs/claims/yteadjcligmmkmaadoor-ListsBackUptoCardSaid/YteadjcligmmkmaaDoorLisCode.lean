/-
  The landed code of layer 12: Do, of any of its commands; what the laws ask of this layer.
-/
import Derived.Test.YteadjcligmmkmaaDoorLisAll
import Derived.Test.YteadjcligmmkmaaDoorVBs
namespace Go.Proofs.YteadjcligmmkmaaDoor.LisM
open Go.RowKit Kit StrT RowG BOrd ValT StoT ReplyT ReplyMath ValM BytesIn DoT Low MapT LstT LisT NumL NumW ReplyM DoV
set_option linter.unusedVariables false
set_option maxRecDepth 100000

theorem kinds (d : V) : (d.kind = 0 ∨ d.kind = 2) ∨ (d.kind ≠ 0 ∧ d.kind ≠ 2) := by omega
theorem row_len {i : Nat} {L A : List (List UInt8)} (h : Tame i L A) (hL : L.length ≤ 1048576) : (rowD i L A).1.length ≤ 1048576 := by
  match i, h with
  | 0, h => have h : A.length + L.length ≤ 1048576 := h; simp [rowD]; omega
  | 1, h => have h : A.length + L.length ≤ 1048576 := h; simp [rowD]; omega
  | 2, h => simp [rowD]; omega
  | 3, h => simp [rowD]; omega
  | 4, h => simpa [rowD] using hL
  | i + 5, h => simpa [rowD] using hL
theorem do_any (i : Nat) (hi : i < 6) (p : PV) (q : Option Addr) (L : List (List UInt8)) (n c : Nat) (w : World) (hp : p.In w) (hS : p.S.size ≤ 1048576) (hg : Gd w) (hn : L.length = n) (hc : n ≤ c) (hm : needD i ≤ n) (hs : StrT.Ss w q L) (hw : (wd L 0).length ≤ 140737488351232) (hnm : nmL L = nameD i) (ht : Tame i p.d.l (L.drop 2)) :
    Calls Tryd.prog 12 #[p.agg, .slice q n c] w (DoN (doD i p.d L).1 (doD i p.d L).2 w) := by
  have h2 : 2 ≤ needD i := by unfold needD; split <;> omega
  have hrz := row_len ht (pv_sizes hp).2.1
  refine Calls.mono ?_ (fun e w' h => doP_n h)
  rcases kinds p.d with hk | hk
  · rw [doD_right hk]
    match i, hi, hm, ht, hrz, hnm with
    | 0, _, hm, ht, hrz, hnm => exact do_right 0 nLpush 3 34 (fun args W => by kernel_rfl) (fun Z => by kernel_rfl) (fun w0 w ql nl cl L qw nw cw A h1 h2 h3 => ahead_any w0 w ql nl cl L qw nw cw A h1 h2 h3) p q L n c w hp hS hg hn hc (by omega) (by have : 3 ≤ n := hm; omega) hs hw hnm hk ht hrz
    | 1, _, hm, ht, hrz, hnm => exact do_right 1 nRpush 3 35 (fun args W => by kernel_rfl) (fun Z => by kernel_rfl) (fun w0 w ql nl cl L qw nw cw A h1 h2 h3 => behind_any w0 w ql nl cl L qw nw cw A h1 h2 h3) p q L n c w hp hS hg hn hc (by omega) (by have : 3 ≤ n := hm; omega) hs hw hnm hk ht hrz
    | 2, _, hm, ht, hrz, hnm => exact do_right 2 nLpop 2 36 (fun args W => by kernel_rfl) (fun Z => by kernel_rfl) (fun w0 w ql nl cl L qw nw cw A h1 h2 h3 => first_any w0 w ql nl cl L qw nw cw A h1 h2 h3) p q L n c w hp hS hg hn hc (by omega) (by omega) hs hw hnm hk ht hrz
    | 3, _, hm, ht, hrz, hnm => exact do_right 3 nRpop 2 37 (fun args W => by kernel_rfl) (fun Z => by kernel_rfl) (fun w0 w ql nl cl L qw nw cw A h1 h2 h3 => last_any w0 w ql nl cl L qw nw cw A h1 h2 h3) p q L n c w hp hS hg hn hc (by omega) (by omega) hs hw hnm hk ht hrz
    | 4, _, hm, ht, hrz, hnm => exact do_right 4 nLlen 2 38 (fun args W => by kernel_rfl) (fun Z => by kernel_rfl) (fun w0 w ql nl cl L qw nw cw A h1 h2 h3 => length_any w0 w ql nl cl L qw nw cw A h1 h2 h3) p q L n c w hp hS hg hn hc (by omega) (by omega) hs hw hnm hk ht hrz
    | 5, _, hm, ht, hrz, hnm => exact do_right 5 nLrange 4 39 (fun args W => by kernel_rfl) (fun Z => by kernel_rfl) (fun w0 w ql nl cl L qw nw cw A h1 h2 h3 => span_any w0 w ql nl cl L qw nw cw A h1 h2 h3) p q L n c w hp hS hg hn hc (by omega) (by have : 4 ≤ n := hm; omega) hs hw hnm hk ht hrz
  · rw [doD_wrong hk]
    have h2i : (2 : Int) ≤ (n : Int) := by omega
    match i, hi, hm, hnm with
    | 0, _, hm, hnm => exact do_wrong nLpush 3 34 (fun Z => by kernel_rfl) p q L n c w hp hS hg hn (by omega) (by have : 3 ≤ n := hm; omega) hs hw hnm hk
    | 1, _, hm, hnm => exact do_wrong nRpush 3 35 (fun Z => by kernel_rfl) p q L n c w hp hS hg hn (by omega) (by have : 3 ≤ n := hm; omega) hs hw hnm hk
    | 2, _, hm, hnm => exact do_wrong nLpop 2 36 (fun Z => by kernel_rfl) p q L n c w hp hS hg hn (by omega) h2i hs hw hnm hk
    | 3, _, hm, hnm => exact do_wrong nRpop 2 37 (fun Z => by kernel_rfl) p q L n c w hp hS hg hn (by omega) h2i hs hw hnm hk
    | 4, _, hm, hnm => exact do_wrong nLlen 2 38 (fun Z => by kernel_rfl) p q L n c w hp hS hg hn (by omega) h2i hs hw hnm hk
    | 5, _, hm, hnm => exact do_wrong nLrange 4 39 (fun Z => by kernel_rfl) p q L n c w hp hS hg hn (by omega) (by have : 4 ≤ n := hm; omega) hs hw hnm hk
/-- A value that is a list of so many texts. -/
theorem list_S {w : World} {p : PV} {L : List (List UInt8)} (hp : p.In w) (hd : p.d = listV L) : p.S = ⟨#[]⟩ := by
  refine same_bytes ?_
  rw [show p.S.data.toList = p.d.s from VIn.es hp, hd, listV_s]
theorem on_list {w : World} {p : PV} {L : List (List UInt8)} (i : Nat) (W : List (List UInt8)) (hd : p.d = listV L) : doD i p.d W = (listV (rowD i L (W.drop 2)).1, (rowD i L (W.drop 2)).2) := by
  rw [hd, doD_right (listV_kind L), listV_l]
/-- Do, of a list, with words that lie wherever. -/
theorem onR (i : Nat) (hi : i < 6) (p : PV) (L : List (List UInt8)) (nm kk : ByteArray) (A : List (List UInt8)) (q : Option Addr) (n c : Nat) (w : World) (hp : p.In w) (hd : p.d = listV L) (hg : Gd w) (hn : 2 + A.length = n) (hc : n ≤ c) (hm : needD i ≤ n) (hs : StrT.Ss w q (nm.data.toList :: kk.data.toList :: A)) (hz : nm.size ≤ 140737488351232) (hnm : lowL nm.data.toList = nameD i) (ht : Tame i L A) :
    Calls Tryd.prog 12 #[p.agg, .slice q n c] w (DoN (listV (rowD i L A).1) (rowD i L A).2 w) := by
  have h := do_any i hi p q (nm.data.toList :: kk.data.toList :: A) n c w hp (by rw [list_S hp hd]; decide) hg (by simp only [List.length_cons]; omega) hc hm hs (by show nm.data.toList.length ≤ _; rw [str_len]; exact hz) hnm (by rw [hd, listV_l]; exact ht)
  rw [on_list (w := w) i _ hd] at h
  exact h
theorem on2 (i : Nat) (hi : i < 6) (nm kk : ByteArray) (hnm : lowL nm.data.toList = nameD i) (hz : nm.size ≤ 140737488351232) (h2 : needD i ≤ 2) (p : PV) (L : List (List UInt8)) (w Y : World) (hY : Below (w.alloc (.cells #[.string nm, .string kk] 9)).heap.size (w.alloc (.cells #[.string nm, .string kk] 9)) Y) (hp : p.In w) (hd : p.d = listV L) (hg : Gd w) (ht : Tame i L []) :
    Calls Tryd.prog 12 #[p.agg, .slice (some ⟨w.heap.size, 0, none⟩) 2 2] Y (DoN (listV (rowD i L []).1) (rowD i L []).2 w) :=
  (onR i hi p L nm kk [] _ 2 2 _ (pv_keep (pv_keep hp (Kit.below1 _ _)) hY) hd ((hg.keep (Kit.below1 _ _)).keep hY) rfl (Nat.le_refl _) h2 ((ss2_new w nm kk).keep hY) hz hnm ht).mono fun e w' h => doN_w h ((Kit.below1 _ _).trans (hY.mono (Below.size (Kit.below1 _ _))))
theorem on3 (i : Nat) (hi : i < 6) (nm kk x : ByteArray) (hnm : lowL nm.data.toList = nameD i) (hz : nm.size ≤ 140737488351232) (h2 : needD i ≤ 3) (p : PV) (L : List (List UInt8)) (w Y : World) (hY : Below (w.alloc (.cells #[.string nm, .string kk, .string x] 9)).heap.size (w.alloc (.cells #[.string nm, .string kk, .string x] 9)) Y) (hp : p.In w) (hd : p.d = listV L) (hg : Gd w) (ht : Tame i L [x.data.toList]) :
    Calls Tryd.prog 12 #[p.agg, .slice (some ⟨w.heap.size, 0, none⟩) 3 3] Y (DoN (listV (rowD i L [x.data.toList]).1) (rowD i L [x.data.toList]).2 w) :=
  (onR i hi p L nm kk [x.data.toList] _ 3 3 _ (pv_keep (pv_keep hp (Kit.below1 _ _)) hY) hd ((hg.keep (Kit.below1 _ _)).keep hY) rfl (Nat.le_refl _) h2 ((ss3_new w nm kk x).keep hY) hz hnm ht).mono fun e w' h => doN_w h ((Kit.below1 _ _).trans (hY.mono (Below.size (Kit.below1 _ _))))
theorem on4 (i : Nat) (hi : i < 6) (nm kk x y : ByteArray) (hnm : lowL nm.data.toList = nameD i) (hz : nm.size ≤ 140737488351232) (h2 : needD i ≤ 4) (p : PV) (L : List (List UInt8)) (w Y : World) (hY : Below (w.alloc (.cells #[.string nm, .string kk, .string x, .string y] 9)).heap.size (w.alloc (.cells #[.string nm, .string kk, .string x, .string y] 9)) Y) (hp : p.In w) (hd : p.d = listV L) (hg : Gd w) (ht : Tame i L [x.data.toList, y.data.toList]) :
    Calls Tryd.prog 12 #[p.agg, .slice (some ⟨w.heap.size, 0, none⟩) 4 4] Y (DoN (listV (rowD i L [x.data.toList, y.data.toList]).1) (rowD i L [x.data.toList, y.data.toList]).2 w) :=
  (onR i hi p L nm kk [x.data.toList, y.data.toList] _ 4 4 _ (pv_keep (pv_keep hp (Kit.below1 _ _)) hY) hd ((hg.keep (Kit.below1 _ _)).keep hY) rfl (Nat.le_refl _) h2 ((ss4_new w nm kk x y).keep hY) hz hnm ht).mono fun e w' h => doN_w h ((Kit.below1 _ _).trans (hY.mono (Below.size (Kit.below1 _ _))))

end Go.Proofs.YteadjcligmmkmaaDoor.LisM
