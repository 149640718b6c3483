/-
  Do by each command of layer 15, what its laws share, what they show first; what is made to fit; what requests come to, row by row.
-/
import Derived.Test.YtodpocciimbjbaaDoorSrtMeths
import Derived.Test.YtodpocciimbjbaaDoorLawKit
import Derived.Test.YtodpocciimbjbaaDoorRefInt
import Derived.Test.YtodpocciimbjbaaDoorRefTexts
import Derived.Test.YtodpocciimbjbaaDoorFitLen
import Derived.Deep.QuietTactic
import Derived.Deep.DeepCutAuto
import Derived.BigQuiet
import Derived.StillTailTactics
import Derived.Deep.RegionLaw
namespace Go.Proofs.YtodpocciimbjbaaDoor.SrtM
open Go.RowKit Kit StrT RowG BOrd ValT StoT ReplyT ReplyMath ValM BytesIn DoT Low LstT SrtT NumL NumW ReplyM LawK DoV
set_option linter.unusedVariables false
set_option maxRecDepth 100000

theorem do_any (i : Nat) (hi : i < 6) (p : PV) (q : Option Addr) (L : List (List UInt8)) (n c : Nat) (w : World) (hp : p.In w) (hS : p.S.size ≤ 1048576) (hg : Gd w) (hn : L.length = n) (hc : n ≤ c) (hm : needD i ≤ n) (hs : StrT.Ss w q L) (hw : (wd L 0).length ≤ 140737488351232) (hnm : nmL L = nameD i) (ht : (p.d.kind = 0 ∨ p.d.kind = 5) → Tame i p.d.z (L.drop 2)) :
    Calls Tryd.prog 11 #[p.agg, .slice q n c] w (DoN (doD i p.d L).1 (doD i p.d L).2 w) := by
  have h2 : 2 ≤ needD i := by unfold needD; split <;> omega
  refine Calls.mono ?_ (fun e w' h => doP_n h)
  rcases kinds p.d with hk | hk
  · rw [doD_right hk]
    have ht := ht hk
    match i, hi, hm, ht, hnm with
    | 0, _, hm, ht, hnm => exact do_right 0 nZadd 4 39 (fun args W => by kernel_rfl) (fun Z => by kernel_rfl) (fun w0 w q n c L qw nw cw A h1 h2 h3 h4 => d_add w0 w q n c L qw nw cw A h1 h2 h3 h4) p q L n c w hp hS hg hn hc (by omega) (by have : 4 ≤ n := hm; omega) hs hw hnm hk ht
    | 1, _, hm, ht, hnm => exact do_right 1 nZrem 3 41 (fun args W => by kernel_rfl) (fun Z => by kernel_rfl) (fun w0 w q n c L qw nw cw A h1 h2 h3 h4 => d_rem w0 w q n c L qw nw cw A h1 h2 h3 h4) p q L n c w hp hS hg hn hc (by omega) (by have : 3 ≤ n := hm; omega) hs hw hnm hk ht
    | 2, _, hm, ht, hnm => exact do_right 2 nZscore 3 42 (fun args W => by kernel_rfl) (fun Z => by kernel_rfl) (fun w0 w q n c L qw nw cw A h1 h2 h3 h4 => d_score w0 w q n c L qw nw cw A h1 h2 h3 h4) p q L n c w hp hS hg hn hc (by omega) (by have : 3 ≤ n := hm; omega) hs hw hnm hk ht
    | 3, _, hm, ht, hnm => exact do_right 3 nZrange 4 44 (fun args W => by kernel_rfl) (fun Z => by kernel_rfl) (fun w0 w q n c L qw nw cw A h1 h2 h3 h4 => d_span w0 w q n c L qw nw cw A h1 h2 h3 h4) p q L n c w hp hS hg hn hc (by omega) (by have : 4 ≤ n := hm; omega) hs hw hnm hk ht
    | 4, _, hm, ht, hnm => exact do_right 4 nZcard 2 43 (fun args W => by kernel_rfl) (fun Z => by kernel_rfl) (fun w0 w q n c L qw nw cw A h1 h2 h3 h4 => d_card w0 w q n c L qw nw cw A h1 h2 h3 h4) p q L n c w hp hS hg hn hc (by omega) (by have : 2 ≤ n := hm; omega) hs hw hnm hk ht
    | 5, _, hm, ht, hnm => exact do_right 5 nZincrby 4 40 (fun args W => by kernel_rfl) (fun Z => by kernel_rfl) (fun w0 w q n c L qw nw cw A h1 h2 h3 h4 => d_incrBy w0 w q n c L qw nw cw A h1 h2 h3 h4) p q L n c w hp hS hg hn hc (by omega) (by have : 4 ≤ n := hm; omega) hs hw hnm hk ht
  · rw [doD_wrong hk]
    match i, hi, hm, hnm with
    | 0, _, hm, hnm => exact do_wrong nZadd 4 39 (fun Z => by kernel_rfl) p q L n c w hp hS hg hn (by omega) (by have : 4 ≤ n := hm; omega) hs hw hnm hk
    | 1, _, hm, hnm => exact do_wrong nZrem 3 41 (fun Z => by kernel_rfl) p q L n c w hp hS hg hn (by omega) (by have : 3 ≤ n := hm; omega) hs hw hnm hk
    | 2, _, hm, hnm => exact do_wrong nZscore 3 42 (fun Z => by kernel_rfl) p q L n c w hp hS hg hn (by omega) (by have : 3 ≤ n := hm; omega) hs hw hnm hk
    | 3, _, hm, hnm => exact do_wrong nZrange 4 44 (fun Z => by kernel_rfl) p q L n c w hp hS hg hn (by omega) (by have : 4 ≤ n := hm; omega) hs hw hnm hk
    | 4, _, hm, hnm => exact do_wrong nZcard 2 43 (fun Z => by kernel_rfl) p q L n c w hp hS hg hn (by omega) (by have : 2 ≤ n := hm; omega) hs hw hnm hk
    | 5, _, hm, hnm => exact do_wrong nZincrby 4 40 (fun Z => by kernel_rfl) p q L n c w hp hS hg hn (by omega) (by have : 4 ≤ n := hm; omega) hs hw hnm hk

end Go.Proofs.YtodpocciimbjbaaDoor.SrtM
namespace Go.Proofs.YtodpocciimbjbaaDoor.SrtL
open Go.RowKit Kit StrT RowG BOrd ValT StoT ReplyT ReplyMath ValM BytesIn DoT Low SrtT NumL NumW NumMath ReplyM SrtM SaidT RefR DoV LawK
set_option linter.unusedVariables false
set_option maxRecDepth 100000

theorem don_to {f : FuncId} {ar : Array Value} {W0 W : World} {x : List Mk × List UInt8} {L' : List Mk} {l' : List UInt8} (h : x = (L', l')) (c : Calls Tryd.prog f ar W0 (DoN (zV x.1) x.2 W)) : Calls Tryd.prog f ar W0 (DoN (zV L') l' W) := by
  rw [h] at c
  exact c
theorem z_S {w : World} {p : PV} {L : List Mk} (hp : p.In w) (hd : p.d = zV L) : p.S = ⟨#[]⟩ := by
  refine same_bytes ?_
  rw [show p.S.data.toList = p.d.s from VIn.es hp, hd, zV_s]
theorem on_z {p : PV} {L : List Mk} (i : Nat) (W : List (List UInt8)) (hd : p.d = zV L) : doD i p.d W = (zV (rowD i L (W.drop 2)).1, (rowD i L (W.drop 2)).2) := by
  rw [hd, doD_right (zV_kind L), zV_z]
/-- Do, of a set, with words that lie wherever. -/
theorem onR (i : Nat) (hi : i < 6) (p : PV) (L : List Mk) (nm kk : ByteArray) (A : List (List UInt8)) (q : Option Addr) (n c : Nat) (w : World) (hp : p.In w) (hd : p.d = zV L) (hg : Gd w) (hn : 2 + A.length = n) (hc : n ≤ c) (hm : needD i ≤ n) (hs : StrT.Ss w q (nm.data.toList :: kk.data.toList :: A)) (hz : nm.size ≤ 140737488351232) (hnm : lowL nm.data.toList = nameD i) (ht : Tame i L A) :
    Calls Tryd.prog 11 #[p.agg, .slice q n c] w (DoN (zV (rowD i L A).1) (rowD i L A).2 w) := by
  have h := do_any i hi p q (nm.data.toList :: kk.data.toList :: A) n c w hp (by rw [z_S hp hd]; decide) hg (by simp only [List.length_cons]; omega) hc hm hs (by show nm.data.toList.length ≤ _; rw [str_len]; exact hz) hnm (fun _ => by rw [hd, zV_z]; exact ht)
  rw [on_z i _ hd] at h
  exact h
theorem on2 (i : Nat) (hi : i < 6) (nm kk : ByteArray) (hnm : lowL nm.data.toList = nameD i) (hz : nm.size ≤ 140737488351232) (h2 : needD i ≤ 2) (p : PV) (L : List Mk) (w Y : World) (hY : Below (w.alloc (.cells #[.string nm, .string kk] 9)).heap.size (w.alloc (.cells #[.string nm, .string kk] 9)) Y) (hp : p.In w) (hd : p.d = zV L) (hg : Gd w) (ht : Tame i L []) :
    Calls Tryd.prog 11 #[p.agg, .slice (some ⟨w.heap.size, 0, none⟩) 2 2] Y (DoN (zV (rowD i L []).1) (rowD i L []).2 w) :=
  (onR i hi p L nm kk [] _ 2 2 _ (pv_keep (pv_keep hp (Kit.below1 _ _)) hY) hd ((hg.keep (Kit.below1 _ _)).keep hY) rfl (Nat.le_refl _) h2 ((ss2_new w nm kk).keep hY) hz hnm ht).mono fun e w' h => doN_w h ((Kit.below1 _ _).trans (hY.mono (Below.size (Kit.below1 _ _))))
theorem on3 (i : Nat) (hi : i < 6) (nm kk x : ByteArray) (hnm : lowL nm.data.toList = nameD i) (hz : nm.size ≤ 140737488351232) (h2 : needD i ≤ 3) (p : PV) (L : List Mk) (w Y : World) (hY : Below (w.alloc (.cells #[.string nm, .string kk, .string x] 9)).heap.size (w.alloc (.cells #[.string nm, .string kk, .string x] 9)) Y) (hp : p.In w) (hd : p.d = zV L) (hg : Gd w) (ht : Tame i L [x.data.toList]) :
    Calls Tryd.prog 11 #[p.agg, .slice (some ⟨w.heap.size, 0, none⟩) 3 3] Y (DoN (zV (rowD i L [x.data.toList]).1) (rowD i L [x.data.toList]).2 w) :=
  (onR i hi p L nm kk [x.data.toList] _ 3 3 _ (pv_keep (pv_keep hp (Kit.below1 _ _)) hY) hd ((hg.keep (Kit.below1 _ _)).keep hY) rfl (Nat.le_refl _) h2 ((ss3_new w nm kk x).keep hY) hz hnm ht).mono fun e w' h => doN_w h ((Kit.below1 _ _).trans (hY.mono (Below.size (Kit.below1 _ _))))
theorem on4 (i : Nat) (hi : i < 6) (nm kk x y : ByteArray) (hnm : lowL nm.data.toList = nameD i) (hz : nm.size ≤ 140737488351232) (h2 : needD i ≤ 4) (p : PV) (L : List Mk) (w Y : World) (hY : Below (w.alloc (.cells #[.string nm, .string kk, .string x, .string y] 9)).heap.size (w.alloc (.cells #[.string nm, .string kk, .string x, .string y] 9)) Y) (hp : p.In w) (hd : p.d = zV L) (hg : Gd w) (ht : Tame i L [x.data.toList, y.data.toList]) :
    Calls Tryd.prog 11 #[p.agg, .slice (some ⟨w.heap.size, 0, none⟩) 4 4] Y (DoN (zV (rowD i L [x.data.toList, y.data.toList]).1) (rowD i L [x.data.toList, y.data.toList]).2 w) :=
  (onR i hi p L nm kk [x.data.toList, y.data.toList] _ 4 4 _ (pv_keep (pv_keep hp (Kit.below1 _ _)) hY) hd ((hg.keep (Kit.below1 _ _)).keep hY) rfl (Nat.le_refl _) h2 ((ss4_new w nm kk x y).keep hY) hz hnm ht).mono fun e w' h => doN_w h ((Kit.below1 _ _).trans (hY.mono (Below.size (Kit.below1 _ _))))
theorem ss5_new (w : World) (a b c d e : ByteArray) : StrT.Ss (w.alloc (.cells #[.string a, .string b, .string c, .string d, .string e] 9)) (some ⟨w.heap.size, 0, none⟩) [a.data.toList, b.data.toList, c.data.toList, d.data.toList, e.data.toList] := by
  intro _
  refine ⟨w.heap.size, 0, rfl, by simp, fun j hj => ?_⟩
  match j, hj with
  | 0, _ => simp [World.cell?_alloc_mark]
  | 1, _ => simp [World.cell?_alloc_mark]
  | 2, _ => simp [World.cell?_alloc_mark]
  | 3, _ => simp [World.cell?_alloc_mark]
  | 4, _ => simp [World.cell?_alloc_mark]
  | j + 5, hj => exact absurd (show j + 5 < 5 from hj) (by omega)
theorem on5 (i : Nat) (hi : i < 6) (nm kk x y z : ByteArray) (hnm : lowL nm.data.toList = nameD i) (hz : nm.size ≤ 140737488351232) (h2 : needD i ≤ 5) (p : PV) (L : List Mk) (w Y : World) (hY : Below (w.alloc (.cells #[.string nm, .string kk, .string x, .string y, .string z] 9)).heap.size (w.alloc (.cells #[.string nm, .string kk, .string x, .string y, .string z] 9)) Y) (hp : p.In w) (hd : p.d = zV L) (hg : Gd w) (ht : Tame i L [x.data.toList, y.data.toList, z.data.toList]) :
    Calls Tryd.prog 11 #[p.agg, .slice (some ⟨w.heap.size, 0, none⟩) 5 5] Y (DoN (zV (rowD i L [x.data.toList, y.data.toList, z.data.toList]).1) (rowD i L [x.data.toList, y.data.toList, z.data.toList]).2 w) :=
  (onR i hi p L nm kk [x.data.toList, y.data.toList, z.data.toList] _ 5 5 _ (pv_keep (pv_keep hp (Kit.below1 _ _)) hY) hd ((hg.keep (Kit.below1 _ _)).keep hY) rfl (Nat.le_refl _) h2 ((ss5_new w nm kk x y z).keep hY) hz hnm ht).mono fun e w' h => doN_w h ((Kit.below1 _ _).trans (hY.mono (Below.size (Kit.below1 _ _))))
/-- The marks of a sorted set in memory. -/
theorem pv_marks {w : World} {p : PV} {L : List Mk} (h : p.In w) (hd : p.d = zV L) : p.nz = L.length ∧ p.nz ≤ p.cz ∧ Rs mkE w p.qz L := by
  have e : p.d.z = L := by rw [hd, zV_z]
  have h0 : p.d.z.length = p.nz := VIn.lz h
  have h1 : p.nz ≤ p.cz := VIn.bz h
  have h4 : Rs mkE w p.qz p.d.z := VIn.rz h
  rw [e] at h0 h4
  exact ⟨h0.symm, h1, h4⟩

end Go.Proofs.YtodpocciimbjbaaDoor.SrtL
namespace Go.Proofs.YtodpocciimbjbaaDoor.SrtL
open Go.RowKit Kit StrT RowG BOrd ValT StoT ReplyT ReplyMath ValM BytesIn DoT Low SrtT NumL NumW NumMath ReplyM SrtM SaidT RefR DoV LawK SrtL
set_option linter.unusedVariables false
set_option maxRecDepth 100000


theorem marks1 (m : Mk) : marks [m] := marks_cons.2 ⟨by simp, marks_nil⟩
theorem rs_one_m (w : World) (S : ByteArray) (n : Int) : Rs mkE (w.alloc (.cells #[.string S, .int .i64 n] 39)) (some ⟨w.heap.size, 0, none⟩) [⟨S.data.toList, n⟩] := fun _ => ⟨w.heap.size, 0, rfl, by simp, fun j hj => by
  rw [Nat.zero_add, flat_one1]
  exact rec_new mkE w w.heap.size ⟨S.data.toList, n⟩ #[.string S, .int .i64 n] (by show _ = #[Value.string ⟨S.data.toList.toArray⟩, Value.int .i64 n]; cases S; simp) rfl j (by simpa using hj)⟩
/-- A mark of a row that is known. -/
theorem mk_at {w : World} {q : Option Addr} {L : List Mk} (h : Rs mkE w q L) (j : Nat) (hj : j < L.length) (m : Mk) (hm : L[j] = m) : ∃ b off, q = some ⟨b, off, none⟩ ∧ b < w.heap.size ∧ w.cell? ⟨b, off + j * 2, none⟩ = some (.string ⟨m.name.toArray⟩) ∧ w.cell? ⟨b, off + j * 2 + 1, none⟩ = some (.int .i64 m.n) := by
  subst hm
  exact mark_cells h j hj
set_option maxHeartbeats 4000000 in
theorem shown_any (w : World) (hg : Gd w) : Calls Tryd.prog 7 #[] w fun e w' => e = .returned (.bool true) ∧ Below w.heap.size w w' := by
  have HG := Lib.hid (fun W (h : Below w.heap.size w W) => hg.keep h)
  have e1 : rowD 0 [(⟨[98], 2⟩ : Mk)] [[50], [97]] = ([(⟨[97], 2⟩ : Mk), ⟨[98], 2⟩], int 1) := by decide +kernel
  have e2 : rowD 5 [(⟨[97], 2⟩ : Mk), ⟨[98], 2⟩] [[45, 49], [98]] = ([(⟨[98], 1⟩ : Mk), ⟨[97], 2⟩], bulk [49]) := by decide +kernel
  have hb0 := Kit.below1 w (.cells #[.string ⟨#[98]⟩, .int .i64 2] 39)
  have C1 := Lib.hid (show Calls Tryd.prog 11 #[.agg #[.int .u8 5, .string ⟨#[]⟩, .slice none 0 0, .slice none 0 0, .slice (some ⟨w.heap.size, 0, none⟩) 1 1], .slice (some ⟨(w.alloc (.cells #[.string ⟨#[98]⟩, .int .i64 2] 39)).heap.size, 0, none⟩) 4 4] ((w.alloc (.cells #[.string ⟨#[98]⟩, .int .i64 2] 39)).alloc (.cells #[.string ⟨#[122, 97, 100, 100]⟩, .string ⟨#[107]⟩, .string ⟨#[50]⟩, .string ⟨#[97]⟩] 9)) (DoN (zV [(⟨[97], 2⟩ : Mk), ⟨[98], 2⟩]) (int 1) (w.alloc (.cells #[.string ⟨#[98]⟩, .int .i64 2] 39))) from
    don_to e1 (on4 0 (by decide) ⟨#[122, 97, 100, 100]⟩ ⟨#[107]⟩ ⟨#[50]⟩ ⟨#[97]⟩ (by decide) (by decide) (by decide) (pvZ (some ⟨w.heap.size, 0, none⟩) 1 1 [(⟨[98], 2⟩ : Mk)]) [(⟨[98], 2⟩ : Mk)] (w.alloc (.cells #[.string ⟨#[98]⟩, .int .i64 2] 39)) _ (Below.refl _ _) (pvZ_in rfl (Nat.le_refl 1) (by decide) (by simp) (rs_one_m w ⟨#[98]⟩ 2) (by decide)) rfl (hg.keep hb0) ⟨marks1 _, by unfold inI; decide, by decide, by decide, by decide⟩))
  rw [show (w.alloc (.cells #[.string ⟨#[98]⟩, .int .i64 2] 39)).heap.size = w.heap.size + 1 by simp] at C1
  have C2 := Lib.hid (fun k1 S1 ql1 nl1 cl1 qh1 nh1 ch1 qz1 nz1 cz1 d1 (W Y : World) (g : Nat) (hY : Below (W.alloc (.cells #[.string ⟨#[122, 105, 110, 99, 114, 98, 121]⟩, .string ⟨#[107]⟩, .string ⟨#[45, 49]⟩, .string ⟨#[98]⟩] 9)).heap.size (W.alloc (.cells #[.string ⟨#[122, 105, 110, 99, 114, 98, 121]⟩, .string ⟨#[107]⟩, .string ⟨#[45, 49]⟩, .string ⟨#[98]⟩] 9)) Y) (hgw : g = W.heap.size) (hW : Below w.heap.size w W) (hpv : PV.In W ⟨k1, S1, ql1, nl1, cl1, qh1, nh1, ch1, qz1, nz1, cz1, d1⟩) (hdv : PV.d ⟨k1, S1, ql1, nl1, cl1, qh1, nh1, ch1, qz1, nz1, cz1, d1⟩ = zV ([(⟨[97], 2⟩ : Mk), ⟨[98], 2⟩])) => (show Calls Tryd.prog 11 #[.agg #[.int .u8 k1, .string S1, .slice ql1 nl1 cl1, .slice qh1 nh1 ch1, .slice qz1 nz1 cz1], .slice (some ⟨g, 0, none⟩) 4 4] Y (DoN (zV ([(⟨[98], 1⟩ : Mk), ⟨[97], 2⟩])) (bulk [49]) W) from by subst hgw; exact don_to (e2) (on4 5 (by decide) ⟨#[122, 105, 110, 99, 114, 98, 121]⟩ ⟨#[107]⟩ ⟨#[45, 49]⟩ ⟨#[98]⟩ (by decide) (by decide) (by decide) ⟨k1, S1, ql1, nl1, cl1, qh1, nh1, ch1, qz1, nz1, cz1, d1⟩ ([(⟨[97], 2⟩ : Mk), ⟨[98], 2⟩]) W Y hY hpv hdv (HG.out W hW) ⟨by decide, by unfold inI; decide, by decide, by decide, by decide⟩)))
  have HB0 := Lib.hid hb0
  clear hg e1 hb0
  go_enter Tryd.func7, Tryd.ntmps7
  go_wp2_with fail
  with_reducible refine C1.out.mono ?_
  rintro e wa ⟨p1, vr1, rfl, hI, hd, hn, hA, hb⟩
  obtain ⟨k1, S1, ql1, nl1, cl1, qh1, nh1, ch1, qz1, nz1, cz1, d1⟩ := p1
  dsimp only [PV.agg]
  obtain ⟨qr1, cr1, rfl, hv1⟩ := ans_text hA 4 (by decide +kernel) ⟨#[58, 49, 13, 10]⟩ (by decide +kernel)
  have hbx := Kit.below1 wa (.cells #[.int .u8 k1, .string S1, .slice ql1 nl1 cl1, .slice qh1 nh1 ch1, .slice qz1 nz1 cz1] 26)
  have HB := Lib.hid (HB0.out.trans ((hb.trans (hbx.mono hb.size)).mono HB0.out.size))
  have HV1 := Lib.hid (show VB _ wa.heap.size ⟨k1, S1, ql1, nl1, cl1, qh1, nh1, ch1, qz1, nz1, cz1, d1⟩ from VB.new hI)
  have HD1 := Lib.hid (show PV.d ⟨k1, S1, ql1, nl1, cl1, qh1, nh1, ch1, qz1, nz1, cz1, d1⟩ = _ from hd)
  have HC1 := Lib.hid (fun W hW => hv1 W (hbx.trans (Below.mono hW hbx.size)))
  clear hbx hI hd hn hA hb hv1 HB0 C1
  go_upto_region 2 with fail
  generalize hgg : wa.heap.size = g1 at HV1 ⊢
  clear hgg
  generalize wa.alloc (.cells #[.int .u8 k1, .string S1, .slice ql1 nl1 cl1, .slice qh1 nh1 ch1, .slice qz1 nz1 cz1] 26) = w2 at HV1 HB HC1 ⊢
  obtain ⟨-, -, ra0, ra1, ra2, ra3, ra4⟩ := HV1.out.room
  dsimp only at ra0 ra1 ra2 ra3 ra4
  go_wp2_with fail
  clear ra0 ra1 ra2 ra3 ra4
  with_reducible refine (C2.out k1 S1 ql1 nl1 cl1 qh1 nh1 ch1 qz1 nz1 cz1 d1 w2 _ _ (Below.refl _ _) rfl HB.out HV1.out.pv HD1.out).mono ?_
  rintro e wa ⟨p2, vr2, rfl, hI, hd, hn, hA, hb⟩
  obtain ⟨k2, S2, ql2, nl2, cl2, qh2, nh2, ch2, qz2, nz2, cz2, d2⟩ := p2
  dsimp only [PV.agg]
  obtain ⟨qr2, cr2, rfl, hv2⟩ := ans_text hA 7 (by decide +kernel) ⟨#[36, 49, 13, 10, 49, 13, 10]⟩ (by decide +kernel)
  have hbn := hb.trans ((Kit.below1 wa (.cells #[.int .u8 k2, .string S2, .slice ql2 nl2 cl2, .slice qh2 nh2 ch2, .slice qz2 nz2 cz2] 26)).mono hb.size)
  have HV1 := Lib.hid (HV1.out.keep hbn)
  have HC1 := Lib.hid (fun W hW => HC1.out W (hbn.trans (Below.mono hW hbn.size)))
  have HB := Lib.hid (HB.out.trans (hbn.mono HB.out.size))
  have HV2 := Lib.hid (show VB _ wa.heap.size ⟨k2, S2, ql2, nl2, cl2, qh2, nh2, ch2, qz2, nz2, cz2, d2⟩ from VB.new hI)
  have HD2 := Lib.hid (show PV.d ⟨k2, S2, ql2, nl2, cl2, qh2, nh2, ch2, qz2, nz2, cz2, d2⟩ = _ from hd)
  have hbx := Kit.below1 wa (.cells #[.int .u8 k2, .string S2, .slice ql2 nl2 cl2, .slice qh2 nh2 ch2, .slice qz2 nz2 cz2] 26)
  have HC2 := Lib.hid (fun W hW => hv2 W (hbx.trans (Below.mono hW hbx.size)))
  clear hbx
  have HL2 := Lib.hid (show w2.heap.size ≤ wa.heap.size from Below.size hb)
  clear hI hd hn hA hb hbn hv2
  go_upto_region 3 with fail
  generalize hgg : wa.heap.size = g2 at HV2 HL2 ⊢
  clear hgg
  generalize wa.alloc (.cells #[.int .u8 k2, .string S2, .slice ql2 nl2 cl2, .slice qh2 nh2 ch2, .slice qz2 nz2 cz2] 26) = w3 at HV2 HV1 HC1 HB HC2 ⊢
  obtain ⟨h1, -, h2⟩ := pv_marks HV1.out.pv HD1.out
  obtain ⟨h3, -, h4⟩ := pv_marks HV2.out.pv HD2.out
  dsimp only at h1 h2 h3 h4
  obtain ⟨b, off, e, -, c0, -⟩ := mk_at h2 0 (by decide) _ rfl
  obtain ⟨b', off', e', -, c2, c3⟩ := mk_at h4 0 (by decide) _ rfl
  have x0 : w3.cell? ⟨b, off, none⟩ = some (.string ⟨#[97]⟩) := c0
  have x1 : w3.cell? ⟨b', off', none⟩ = some (.string ⟨#[98]⟩) := c2
  have x2 : w3.cell? ⟨b', off' + 1, none⟩ = some (.int .i64 1) := c3
  have hc1 := HC1.out w3 (Below.refl _ _)
  have hc2 := HC2.out w3 (Below.refl _ _)
  have ee : ∀ W, (binOp .eql 39 (.agg #[.string ⟨#[98]⟩, .int .i64 1]) (.agg #[.string ⟨#[98]⟩, .int .i64 1])).run Tryd.prog W = .ok (.bool true) W := fun W => by kernel_rfl
  have n1 : nz1 = 2 := h1
  have n2 : nz2 = 2 := h3
  subst n1 n2 e e'
  obtain ⟨-, -, ra0, ra1, ra2, ra3, ra4⟩ := HV1.out.room
  dsimp only at ra0 ra1 ra2 ra3 ra4
  obtain ⟨-, -, rb0, rb1, rb2, rb3, rb4⟩ := HV2.out.room
  dsimp only at rb0 rb1 rb2 rb3 rb4
  clear C2 HC1 HC2 HD1 HD2 HV1 HV2 HL2 c0 c2 c3 h1 h2 h3 h4 e2
  go_wp2_with fail
  go_ret
  exact ⟨rfl, HB.out⟩

end Go.Proofs.YtodpocciimbjbaaDoor.SrtL
namespace Go.Proofs.YtodpocciimbjbaaDoor.SrtL
open BOrd ValT DoT SrtT RefV NumL NumW ValM
open Go.Op (bytesLess)
set_option linter.unusedVariables false
set_option maxRecDepth 100000

/-- All letters of a row of marks' names. -/
def ltZ (l : List Mk) : Nat := (mnames l).flatten.length
theorem lz_nil : ltZ [] = 0 := rfl
theorem lz_cons (x : Mk) (l : List Mk) : ltZ (x :: l) = x.name.length + ltZ l := by unfold ltZ mnames; simp
theorem lz_app (a b : List Mk) : ltZ (a ++ b) = ltZ a + ltZ b := by unfold ltZ mnames; simp
theorem lz_ins (m : Mk) (l : List Mk) : ltZ (insM l m) = ltZ l + m.name.length := by
  have h : ltZ (l.take (posM l m)) + ltZ (l.drop (posM l m)) = ltZ l := by rw [← lz_app, List.take_append_drop]
  unfold insM
  rw [lz_app, lz_cons]
  omega
theorem lz_rem (s : List UInt8) : ∀ l : List Mk, ltZ (remM l s) ≤ ltZ l
  | [] => Nat.le_refl _
  | x :: l => by
    have ih := lz_rem s l
    unfold remM at ih ⊢
    by_cases h : x.name = s
    · rw [List.filter_cons_of_neg (by simp [h]), lz_cons]
      omega
    · rw [List.filter_cons_of_pos (by simp [h]), lz_cons, lz_cons]
      omega
theorem lz_put (l : List Mk) (s : List UInt8) (n : Int) : ltZ (putZ l s n) ≤ ltZ l + s.length := by
  unfold putZ
  rw [lz_ins]
  have := lz_rem s l
  show ltZ (remM l s) + s.length ≤ _
  omega
theorem foldM_facts : ∀ (l o : List Mk), marks o → ltZ (l.foldl putM o) ≤ ltZ o + ltZ l ∧ ((∀ x ∈ o, inI x.n) → (∀ x ∈ l, inI x.n) → ∀ x ∈ l.foldl putM o, inI x.n)
  | [], o, _ => ⟨by show ltZ o ≤ _; omega, fun h _ => h⟩
  | m :: l, o, h => by
    have e := putM_is m h
    have hu := put_up m.name m.n h
    rw [List.foldl_cons, lz_cons, e]
    obtain ⟨h1, h2⟩ := foldM_facts l (putZ o m.name m.n) hu
    have h3 := lz_put o m.name m.n
    exact ⟨by omega, fun ho hl => h2 (put_in m.name ho (hl m List.mem_cons_self)) fun x hx => hl x (List.mem_cons_of_mem _ hx)⟩
theorem fitZ_facts (z : List Mk) (h0 : z ≠ []) : marks (fitZ z) ∧ fitZ z ≠ [] ∧ ltZ (fitZ z) ≤ ltZ z ∧ ((∀ x ∈ z, inI x.n) → ∀ x ∈ fitZ z, inI x.n) := by
  obtain ⟨h1, h2⟩ := foldM_marks (z.take 8) [] List.Pairwise.nil
  obtain ⟨h3, h4⟩ := foldM_facts (z.take 8) [] List.Pairwise.nil
  have h5 : ltZ (z.take 8) + ltZ (z.drop 8) = ltZ z := by rw [← lz_app, List.take_append_drop]
  rw [lz_nil] at h3
  exact ⟨h1, h2 (Or.inl (take8_ne h0)), by show ltZ ((z.take 8).foldl putM []) ≤ ltZ z; omega, fun h => h4 (fun x hx => by cases hx) fun x hx => h x (List.mem_of_mem_take hx)⟩
theorem fit_cases (d : V) : fitV d = v0 ∨ (fitV d = ⟨5, [], [], [], fitZ d.z⟩ ∧ d.z ≠ []) ∨ ((fitV d).kind ≠ 0 ∧ (fitV d).kind ≠ 5) := by
  obtain ⟨x, hx⟩ : ∃ x, x = fitV d := ⟨_, rfl⟩
  rw [← hx]
  unfold fitV at hx
  (repeat' split at hx) <;> subst hx <;> first
    | exact Or.inl rfl
    | exact Or.inr (Or.inl ⟨rfl, by assumption⟩)
    | exact Or.inr (Or.inr ⟨by decide, by decide⟩)
    | exact Or.inr (Or.inr ⟨by simp, by simp⟩)
/-- What a sorted set that fits is. -/
structure FitZ (d : V) : Prop where
  eq : d = zV d.z
  up : marks d.z
  n8 : d.z.length ≤ 8
  lt : (mnames d.z).flatten.length ≤ 1048576
  nn : ∀ x ∈ d.z, inI x.n
theorem fit_z (d : V) (hf : (mnames d.z).flatten.length ≤ 1048576) (hn : ∀ x ∈ d.z, inI x.n) (hk : (fitV d).kind = 0 ∨ (fitV d).kind = 5) : FitZ (fitV d) := by
  rcases fit_cases d with h | ⟨h, h0⟩ | h
  · rw [h]
    exact ⟨rfl, marks_nil, by decide, by decide, fun x hx => by cases hx⟩
  · obtain ⟨h1, h2, h3, h4⟩ := fitZ_facts d.z h0
    rw [h]
    exact ⟨by rw [zV_some (List.length_pos_iff.2 h2)], h1, fitZ_len _, by have h5 : ltZ (fitZ d.z) ≤ ltZ d.z := h3; exact Nat.le_trans h5 hf, h4 hn⟩
  · omega

end Go.Proofs.YtodpocciimbjbaaDoor.SrtL
namespace Go.Proofs.YtodpocciimbjbaaDoor.SrtL
open BOrd ValT ReplyMath Low DoT SrtT NumL NumW ValM RefV LawK
open Go.Op (bytesLess)
open Go.Lib (itoa)
set_option linter.unusedVariables false
set_option maxRecDepth 100000

theorem itoa_0 : ([48] : List UInt8) = itoa 0 := by decide +kernel
theorem itoa_m1 : ([45, 49] : List UInt8) = itoa (-1) := by decide +kernel
theorem bounds_all (n : Int) (h : 1 ≤ n) : boundsI n 0 (-1) = (0, n) := by
  have e1 : placeI n 0 = 0 := if_neg (by omega)
  have e2 : placeI n (-1) = n + (-1) := if_pos (by omega)
  unfold boundsI
  rw [e1, e2]
  simp only
  split <;> first | omega | (apply Prod.ext <;> simp <;> omega)
theorem part_all (M : List Mk) : partB M [48] [45, 49] = true ∧ partM M [48] [45, 49] = M := by
  have h0 := pB_itoa (n := 0) (by decide) (by decide)
  have h1 := pB_itoa (n := -1) (by decide) (by decide)
  rw [← itoa_0] at h0
  rw [← itoa_m1] at h1
  unfold partB partM partV
  rw [h0.1, h0.2, h1.1, h1.2]
  unfold partR
  simp only
  split
  · have e : M = [] := List.eq_nil_of_length_eq_zero (by omega)
    subst e
    exact ⟨rfl, by simp⟩
  · rw [bounds_all _ (by omega)]
    refine ⟨rfl, ?_⟩
    show (M.take ((M.length : Nat) : Int).toNat).drop (0 : Int).toNat = M
    rw [show ((M.length : Nat) : Int).toNat = M.length by omega, List.take_length]
    rfl
/-- A sorted set told whole. -/
theorem all_row (M : List Mk) : rowD 3 M [[48], [45, 49]] = (M, texts (mnames M)) := by
  have h := part_all M
  show (M, if partB M [48] [45, 49] = true then texts (mnames (partM M [48] [45, 49])) else eInt) = _
  rw [if_pos h.1, h.2]
theorem card_row (M : List Mk) : rowD 4 M [] = (M, int (M.length : Int)) := rfl
/-- A number put in. -/
theorem add_row (M : List Mk) (f s : List UInt8) (x : Int) (hf : f = itoa x) (x0 : -9223372036854775808 ≤ x) (x1 : x ≤ 9223372036854775807) : rowD 0 M [f, s] = (putZ M s x, int (((putZ M s x).length : Int) - (M.length : Int))) := by
  subst hf
  obtain ⟨a1, a2⟩ := pB_itoa x0 x1
  show (if pB (itoa x) = true then (putZ M s (pV (itoa x)), int (((putZ M s (pV (itoa x))).length : Int) - (M.length : Int))) else (M, eInt)) = _
  rw [if_pos a1, a2]
/-- A number made more, or left, as it would not fit. -/
theorem more_row (M : List Mk) (f s : List UInt8) (y : Int) (hf : f = itoa y) (y0 : -9223372036854775808 ≤ y) (y1 : y ≤ 9223372036854775807) : rowD 5 M [f, s] = if addB (numM M s) y = true then (putZ M s (addV (numM M s) y), bulk (itoa (addV (numM M s) y))) else (M, eOver) := by
  subst hf
  obtain ⟨a1, a2⟩ := pB_itoa y0 y1
  show (if pB (itoa y) = true then (if addB (numM M s) (pV (itoa y)) = true then (putZ M s (addV (numM M s) (pV (itoa y))), bulk (itoa (addV (numM M s) (pV (itoa y))))) else (M, eOver)) else (M, eInt)) = _
  rw [if_pos a1, a2]
/-- A number told. -/
theorem got_row {M : List Mk} (hM : marks M) (s : List UInt8) (x : Int) : rowD 2 (putZ M s x) [s] = (putZ M s x, bulk (itoa x)) := by
  have h : hasM (putZ M s x) s = true := by rw [put_has]; simp
  show (putZ M s x, if hasM (putZ M s x) s = true then bulk (itoa (numM (putZ M s x) s)) else null) = _
  rw [if_pos h, put_num s x hM]
theorem none_row {M : List Mk} {s : List UInt8} (h : hasM M s = false) : rowD 2 M [s] = (M, null) := by
  show (M, if hasM M s = true then bulk (itoa (numM M s)) else null) = _
  rw [if_neg (by rw [h]; decide)]
theorem some_row {M : List Mk} {s : List UInt8} (h : hasM M s = true) : rowD 2 M [s] = (M, bulk (itoa (numM M s))) := by
  show (M, if hasM M s = true then bulk (itoa (numM M s)) else null) = _
  rw [if_pos h]
/-- What a row of marks that is made to fit is. -/
theorem fit_marks (L : List Mk) (hf : (mnames L).flatten.length ≤ 1048576) (hn : ∀ x ∈ L, inI x.n) : ∃ M, fitV ⟨5, [], [], [], L⟩ = zV M ∧ marks M ∧ M.length ≤ 8 ∧ (mnames M).flatten.length ≤ 1048576 ∧ (∀ x ∈ M, inI x.n) := by
  have hk : (fitV ⟨5, [], [], [], L⟩).kind = 0 ∨ (fitV ⟨5, [], [], [], L⟩).kind = 5 := by
    unfold fitV
    simp
    split
    · exact Or.inl rfl
    · exact Or.inr rfl
  have h := fit_z ⟨5, [], [], [], L⟩ hf hn hk
  exact ⟨_, h.eq, h.up, h.n8, h.lt, h.nn⟩
/-- Marks of one number. -/
def oneN (n : Int) (W : List (List UInt8)) : List Mk := W.map fun s => ⟨s, n⟩
theorem one_mem (n : Int) (W : List (List UInt8)) (y : Mk) : y ∈ oneN n W ↔ y.n = n ∧ y.name ∈ W := by
  unfold oneN
  rw [List.mem_map]
  constructor
  · rintro ⟨s, hs, rfl⟩
    exact ⟨rfl, hs⟩
  · rintro ⟨h1, h2⟩
    exact ⟨y.name, h2, by rw [← h1]⟩
theorem one_up (n : Int) {W : List (List UInt8)} (h : rises W) : marks (oneN n W) := by
  unfold marks oneN
  rw [List.pairwise_map]
  refine List.Pairwise.imp (fun {a b} (hab : bytesLess a b = true) => ?_) h
  exact (okM_iff ⟨a, n⟩ ⟨b, n⟩).2 ⟨less_ne hab, Or.inr ⟨rfl, hab⟩⟩
theorem one_names (n : Int) (W : List (List UInt8)) : mnames (oneN n W) = W := by
  unfold mnames oneN
  rw [List.map_map]
  exact List.map_id _
theorem one_len (n : Int) (W : List (List UInt8)) : (oneN n W).length = W.length := by unfold oneN; simp
theorem one_has (n : Int) (W : List (List UInt8)) (s : List UInt8) : hasM (oneN n W) s = decide (s ∈ W) := by
  unfold hasM
  rw [one_names]
theorem putL_mem {W : List (List UInt8)} (s y : List UInt8) (h : rises W) : y ∈ putL W s ↔ y = s ∨ y ∈ W := by
  obtain ⟨l1, l2, e, a1, a2, a3⟩ := putL_shape s h
  rw [a3, e]
  by_cases hy : y = s
  · simp [hy]
  · simp [hy]
theorem one_put (n : Int) {W : List (List UInt8)} (s : List UInt8) (h : rises W) : putZ (oneN n W) s n = oneN n (putL W s) := by
  refine marks_ext (put_up s n (one_up n h)) (one_up n (putL_rises s h)) fun y => ?_
  rw [put_mem, one_mem, one_mem, putL_mem s _ h]
  constructor
  · rintro (rfl | ⟨⟨h1, h2⟩, h3⟩)
    · exact ⟨rfl, Or.inl rfl⟩
    · exact ⟨h1, Or.inr h2⟩
  · rintro ⟨h1, h2⟩
    by_cases e : y.name = s
    · left
      obtain ⟨a, b⟩ := y
      dsimp only at h1 e
      rw [h1, e]
    · exact Or.inr ⟨⟨h1, h2.resolve_left e⟩, e⟩
/-- One more name with that number: whether there was one. -/
theorem one_row (n : Int) {W : List (List UInt8)} (f s : List UInt8) (h : rises W) (hf : f = itoa n) (x0 : -9223372036854775808 ≤ n) (x1 : n ≤ 9223372036854775807) : rowD 0 (oneN n W) [f, s] = (oneN n (putL W s), int (if s ∈ W then 0 else 1)) := by
  rw [add_row _ f s n hf x0 x1, one_put n s h]
  have h1 := put_len s n (one_up n h)
  rw [one_put n s h, one_has, one_len, one_len] at h1
  rw [one_len, one_len, h1]
  by_cases hs : s ∈ W
  · rw [if_pos (by simpa using hs), if_pos hs]
    congr 2
    omega
  · rw [if_neg (by simpa using hs), if_neg hs]
    congr 2
    omega
theorem one_in (n : Int) (W : List (List UInt8)) (x0 : -9223372036854775808 ≤ n) (x1 : n ≤ 9223372036854775807) : ∀ x ∈ oneN n W, inI x.n := fun x hx => by
  rw [((one_mem n W x).1 hx).1]
  exact ⟨x0, x1⟩

end Go.Proofs.YtodpocciimbjbaaDoor.SrtL
