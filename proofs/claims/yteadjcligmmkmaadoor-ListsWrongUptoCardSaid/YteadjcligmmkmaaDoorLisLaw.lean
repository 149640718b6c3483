/-
  The landed code of layer 12: Do, of any of its commands; what the laws of layer 12 show first, and share.
-/
import Derived.Test.YteadjcligmmkmaaDoorLisAll
import Derived.Test.YteadjcligmmkmaaDoorVBs
import Derived.Test.YteadjcligmmkmaaDoorRefInt
import Derived.Test.YteadjcligmmkmaaDoorRefBulk
import Derived.Deep.QuietTactic
import Derived.Deep.DeepCutAuto
import Derived.BigQuiet
import Derived.StillTailTactics
import Derived.Deep.RegionLaw
namespace Go.Proofs.YteadjcligmmkmaaDoor.LisM
open Go.RowKit Kit StrT RowG BOrd ValT StoT ReplyT ReplyMath ValM BytesIn DoT Low MapT LstT LisT NumL NumW ReplyM DoV
set_option linter.unusedVariables false
set_option maxRecDepth 100000

theorem kinds (d : V) : (d.kind = 0 ∨ d.kind = 2) ∨ (d.kind ≠ 0 ∧ d.kind ≠ 2) := by omega
theorem row_len {i : Nat} {L A : List (List UInt8)} (h : Tame i L A) (hL : L.length ≤ 1048576) : (rowD i L A).1.length ≤ 1048576 := by
  match i, h with
  | 0, h => have h : A.length + L.length ≤ 1048576 := h; simp [rowD]; omega
  | 1, h => have h : A.length + L.length ≤ 1048576 := h; simp [rowD]; omega
  | 2, h => simp [rowD]; omega
  | 3, h => simp [rowD]; omega
  | 4, h => simpa [rowD] using hL
  | i + 5, h => simpa [rowD] using hL
theorem do_any (i : Nat) (hi : i < 6) (p : PV) (q : Option Addr) (L : List (List UInt8)) (n c : Nat) (w : World) (hp : p.In w) (hS : p.S.size ≤ 1048576) (hg : Gd w) (hn : L.length = n) (hc : n ≤ c) (hm : needD i ≤ n) (hs : StrT.Ss w q L) (hw : (wd L 0).length ≤ 140737488351232) (hnm : nmL L = nameD i) (ht : Tame i p.d.l (L.drop 2)) :
    Calls Tryd.prog 12 #[p.agg, .slice q n c] w (DoN (doD i p.d L).1 (doD i p.d L).2 w) := by
  have h2 : 2 ≤ needD i := by unfold needD; split <;> omega
  have hrz := row_len ht (pv_sizes hp).2.1
  refine Calls.mono ?_ (fun e w' h => doP_n h)
  rcases kinds p.d with hk | hk
  · rw [doD_right hk]
    match i, hi, hm, ht, hrz, hnm with
    | 0, _, hm, ht, hrz, hnm => exact do_right 0 nLpush 3 34 (fun args W => by kernel_rfl) (fun Z => by kernel_rfl) (fun w0 w ql nl cl L qw nw cw A h1 h2 h3 => ahead_any w0 w ql nl cl L qw nw cw A h1 h2 h3) p q L n c w hp hS hg hn hc (by omega) (by have : 3 ≤ n := hm; omega) hs hw hnm hk ht hrz
    | 1, _, hm, ht, hrz, hnm => exact do_right 1 nRpush 3 35 (fun args W => by kernel_rfl) (fun Z => by kernel_rfl) (fun w0 w ql nl cl L qw nw cw A h1 h2 h3 => behind_any w0 w ql nl cl L qw nw cw A h1 h2 h3) p q L n c w hp hS hg hn hc (by omega) (by have : 3 ≤ n := hm; omega) hs hw hnm hk ht hrz
    | 2, _, hm, ht, hrz, hnm => exact do_right 2 nLpop 2 36 (fun args W => by kernel_rfl) (fun Z => by kernel_rfl) (fun w0 w ql nl cl L qw nw cw A h1 h2 h3 => first_any w0 w ql nl cl L qw nw cw A h1 h2 h3) p q L n c w hp hS hg hn hc (by omega) (by omega) hs hw hnm hk ht hrz
    | 3, _, hm, ht, hrz, hnm => exact do_right 3 nRpop 2 37 (fun args W => by kernel_rfl) (fun Z => by kernel_rfl) (fun w0 w ql nl cl L qw nw cw A h1 h2 h3 => last_any w0 w ql nl cl L qw nw cw A h1 h2 h3) p q L n c w hp hS hg hn hc (by omega) (by omega) hs hw hnm hk ht hrz
    | 4, _, hm, ht, hrz, hnm => exact do_right 4 nLlen 2 38 (fun args W => by kernel_rfl) (fun Z => by kernel_rfl) (fun w0 w ql nl cl L qw nw cw A h1 h2 h3 => length_any w0 w ql nl cl L qw nw cw A h1 h2 h3) p q L n c w hp hS hg hn hc (by omega) (by omega) hs hw hnm hk ht hrz
    | 5, _, hm, ht, hrz, hnm => exact do_right 5 nLrange 4 39 (fun args W => by kernel_rfl) (fun Z => by kernel_rfl) (fun w0 w ql nl cl L qw nw cw A h1 h2 h3 => span_any w0 w ql nl cl L qw nw cw A h1 h2 h3) p q L n c w hp hS hg hn hc (by omega) (by have : 4 ≤ n := hm; omega) hs hw hnm hk ht hrz
  · rw [doD_wrong hk]
    have h2i : (2 : Int) ≤ (n : Int) := by omega
    match i, hi, hm, hnm with
    | 0, _, hm, hnm => exact do_wrong nLpush 3 34 (fun Z => by kernel_rfl) p q L n c w hp hS hg hn (by omega) (by have : 3 ≤ n := hm; omega) hs hw hnm hk
    | 1, _, hm, hnm => exact do_wrong nRpush 3 35 (fun Z => by kernel_rfl) p q L n c w hp hS hg hn (by omega) (by have : 3 ≤ n := hm; omega) hs hw hnm hk
    | 2, _, hm, hnm => exact do_wrong nLpop 2 36 (fun Z => by kernel_rfl) p q L n c w hp hS hg hn (by omega) h2i hs hw hnm hk
    | 3, _, hm, hnm => exact do_wrong nRpop 2 37 (fun Z => by kernel_rfl) p q L n c w hp hS hg hn (by omega) h2i hs hw hnm hk
    | 4, _, hm, hnm => exact do_wrong nLlen 2 38 (fun Z => by kernel_rfl) p q L n c w hp hS hg hn (by omega) h2i hs hw hnm hk
    | 5, _, hm, hnm => exact do_wrong nLrange 4 39 (fun Z => by kernel_rfl) p q L n c w hp hS hg hn (by omega) (by have : 4 ≤ n := hm; omega) hs hw hnm hk
/-- A value that is a list of so many texts. -/
theorem list_S {w : World} {p : PV} {L : List (List UInt8)} (hp : p.In w) (hd : p.d = listV L) : p.S = ⟨#[]⟩ := by
  refine same_bytes ?_
  rw [show p.S.data.toList = p.d.s from VIn.es hp, hd, listV_s]
theorem on_list {w : World} {p : PV} {L : List (List UInt8)} (i : Nat) (W : List (List UInt8)) (hd : p.d = listV L) : doD i p.d W = (listV (rowD i L (W.drop 2)).1, (rowD i L (W.drop 2)).2) := by
  rw [hd, doD_right (listV_kind L), listV_l]
/-- Do, of a list, with words that lie wherever. -/
theorem onR (i : Nat) (hi : i < 6) (p : PV) (L : List (List UInt8)) (nm kk : ByteArray) (A : List (List UInt8)) (q : Option Addr) (n c : Nat) (w : World) (hp : p.In w) (hd : p.d = listV L) (hg : Gd w) (hn : 2 + A.length = n) (hc : n ≤ c) (hm : needD i ≤ n) (hs : StrT.Ss w q (nm.data.toList :: kk.data.toList :: A)) (hz : nm.size ≤ 140737488351232) (hnm : lowL nm.data.toList = nameD i) (ht : Tame i L A) :
    Calls Tryd.prog 12 #[p.agg, .slice q n c] w (DoN (listV (rowD i L A).1) (rowD i L A).2 w) := by
  have h := do_any i hi p q (nm.data.toList :: kk.data.toList :: A) n c w hp (by rw [list_S hp hd]; decide) hg (by simp only [List.length_cons]; omega) hc hm hs (by show nm.data.toList.length ≤ _; rw [str_len]; exact hz) hnm (by rw [hd, listV_l]; exact ht)
  rw [on_list (w := w) i _ hd] at h
  exact h
theorem on2 (i : Nat) (hi : i < 6) (nm kk : ByteArray) (hnm : lowL nm.data.toList = nameD i) (hz : nm.size ≤ 140737488351232) (h2 : needD i ≤ 2) (p : PV) (L : List (List UInt8)) (w Y : World) (hY : Below (w.alloc (.cells #[.string nm, .string kk] 9)).heap.size (w.alloc (.cells #[.string nm, .string kk] 9)) Y) (hp : p.In w) (hd : p.d = listV L) (hg : Gd w) (ht : Tame i L []) :
    Calls Tryd.prog 12 #[p.agg, .slice (some ⟨w.heap.size, 0, none⟩) 2 2] Y (DoN (listV (rowD i L []).1) (rowD i L []).2 w) :=
  (onR i hi p L nm kk [] _ 2 2 _ (pv_keep (pv_keep hp (Kit.below1 _ _)) hY) hd ((hg.keep (Kit.below1 _ _)).keep hY) rfl (Nat.le_refl _) h2 ((ss2_new w nm kk).keep hY) hz hnm ht).mono fun e w' h => doN_w h ((Kit.below1 _ _).trans (hY.mono (Below.size (Kit.below1 _ _))))
theorem on3 (i : Nat) (hi : i < 6) (nm kk x : ByteArray) (hnm : lowL nm.data.toList = nameD i) (hz : nm.size ≤ 140737488351232) (h2 : needD i ≤ 3) (p : PV) (L : List (List UInt8)) (w Y : World) (hY : Below (w.alloc (.cells #[.string nm, .string kk, .string x] 9)).heap.size (w.alloc (.cells #[.string nm, .string kk, .string x] 9)) Y) (hp : p.In w) (hd : p.d = listV L) (hg : Gd w) (ht : Tame i L [x.data.toList]) :
    Calls Tryd.prog 12 #[p.agg, .slice (some ⟨w.heap.size, 0, none⟩) 3 3] Y (DoN (listV (rowD i L [x.data.toList]).1) (rowD i L [x.data.toList]).2 w) :=
  (onR i hi p L nm kk [x.data.toList] _ 3 3 _ (pv_keep (pv_keep hp (Kit.below1 _ _)) hY) hd ((hg.keep (Kit.below1 _ _)).keep hY) rfl (Nat.le_refl _) h2 ((ss3_new w nm kk x).keep hY) hz hnm ht).mono fun e w' h => doN_w h ((Kit.below1 _ _).trans (hY.mono (Below.size (Kit.below1 _ _))))
theorem on4 (i : Nat) (hi : i < 6) (nm kk x y : ByteArray) (hnm : lowL nm.data.toList = nameD i) (hz : nm.size ≤ 140737488351232) (h2 : needD i ≤ 4) (p : PV) (L : List (List UInt8)) (w Y : World) (hY : Below (w.alloc (.cells #[.string nm, .string kk, .string x, .string y] 9)).heap.size (w.alloc (.cells #[.string nm, .string kk, .string x, .string y] 9)) Y) (hp : p.In w) (hd : p.d = listV L) (hg : Gd w) (ht : Tame i L [x.data.toList, y.data.toList]) :
    Calls Tryd.prog 12 #[p.agg, .slice (some ⟨w.heap.size, 0, none⟩) 4 4] Y (DoN (listV (rowD i L [x.data.toList, y.data.toList]).1) (rowD i L [x.data.toList, y.data.toList]).2 w) :=
  (onR i hi p L nm kk [x.data.toList, y.data.toList] _ 4 4 _ (pv_keep (pv_keep hp (Kit.below1 _ _)) hY) hd ((hg.keep (Kit.below1 _ _)).keep hY) rfl (Nat.le_refl _) h2 ((ss4_new w nm kk x y).keep hY) hz hnm ht).mono fun e w' h => doN_w h ((Kit.below1 _ _).trans (hY.mono (Below.size (Kit.below1 _ _))))

end Go.Proofs.YteadjcligmmkmaaDoor.LisM
namespace Go.Proofs.YteadjcligmmkmaaDoor.LisL
open Go.RowKit Kit StrT RowG BOrd ValT StoT ReplyT ReplyMath ValM BytesIn DoT Low MapT LstT LisT NumL NumW NumMath ReplyM LisM SaidT RefR DoV
set_option linter.unusedVariables false
set_option maxRecDepth 100000


theorem don_to {f : FuncId} {ar : Array Value} {W0 W : World} {x : List (List UInt8) × List UInt8} {L' : List (List UInt8)} {l' : List UInt8} (h : x = (L', l')) (c : Calls Tryd.prog f ar W0 (DoN (listV x.1) x.2 W)) : Calls Tryd.prog f ar W0 (DoN (listV L') l' W) := by
  rw [h] at c
  exact c
theorem tame0 {L A : List (List UInt8)} (h : A.length + L.length ≤ 1048576) : Tame 0 L A := h
theorem tame1 {L A : List (List UInt8)} (h : A.length + L.length ≤ 1048576) : Tame 1 L A := h
theorem tame2 {L A : List (List UInt8)} (h : ∀ s ∈ L, s.length ≤ 1048576) : Tame 2 L A := h
theorem tame3 {L A : List (List UInt8)} (h : ∀ s ∈ L, s.length ≤ 1048576) : Tame 3 L A := h
theorem tame4 {L A : List (List UInt8)} : Tame 4 L A := trivial
theorem tame5 {L A : List (List UInt8)} (h1 : 2 ≤ A.length) (h2 : L.length ≤ 4096) (h3 : L.flatten.length ≤ 1048576) (h4 : (wd A 0).length ≤ 281474976710656) (h5 : (wd A 1).length ≤ 281474976710656) : Tame 5 L A := ⟨h1, h2, h3, h4, h5⟩
theorem kind_of {w : World} {p : PV} {d : V} (h : p.In w) (hd : p.d = d) : p.k = (d.kind : Int) := by
  rw [← hd]
  exact VIn.ek h
theorem pv_row {w : World} {p : PV} {L : List (List UInt8)} (h : p.In w) (hd : p.d = listV L) : p.nl = L.length ∧ p.nl ≤ p.cl ∧ p.cl ≤ 9223372036854775807 ∧ (p.ql = none → p.cl = 0) ∧ StrT.Ss w p.ql L := by
  have e : p.d.l = L := by rw [hd, listV_l]
  have h0 : p.d.l.length = p.nl := VIn.ll h
  have h1 : p.nl ≤ p.cl := VIn.bl h
  have h2 : p.cl ≤ 9223372036854775807 := VIn.ml h
  have h3 : p.ql = none → p.cl = 0 := VIn.el h
  have h4 : Rs strE w p.ql p.d.l := VIn.rl h
  rw [e] at h0 h4
  exact ⟨h0.symm, h1, h2, h3, rs_ss.1 h4⟩
theorem ss1_new (w : World) (a : ByteArray) : StrT.Ss (w.alloc (.cells #[.string a] 9)) (some ⟨w.heap.size, 0, none⟩) [a.data.toList] := by
  intro _
  refine ⟨w.heap.size, 0, rfl, by simp, fun j hj => ?_⟩
  match j, hj with
  | 0, _ => simp [World.cell?_alloc_mark]
  | j + 1, hj => exact absurd (show j + 1 < 1 from hj) (by omega)

theorem pB_itoa {n : Int} (h0 : -9223372036854775808 ≤ n) (h1 : n ≤ 9223372036854775807) : pB (Lib.itoa n) = true ∧ pV (Lib.itoa n) = n := by
  unfold pB pV
  rw [parse_itoa n h0 h1]
  exact ⟨rfl, rfl⟩
theorem partV_itoa (n a b : Int) (ha : -9223372036854775808 ≤ a ∧ a ≤ 9223372036854775807) (hb : -9223372036854775808 ≤ b ∧ b ≤ 9223372036854775807) : partV n (Lib.itoa a) (Lib.itoa b) = if n ≤ 0 then (0, 0, true) else ((boundsI n a b).1, (boundsI n a b).2, true) := by
  unfold partV
  rw [(pB_itoa ha.1 ha.2).1, (pB_itoa hb.1 hb.2).1, (pB_itoa ha.1 ha.2).2, (pB_itoa hb.1 hb.2).2]
  rfl
theorem bounds_from (n k : Int) (h0 : 0 ≤ k) (h1 : k ≤ n) (hn : 1 ≤ n) : boundsI n k (-1) = if k < n then (k, n) else (0, 0) := by
  have e1 : placeI n k = k := if_neg (by omega)
  have e2 : placeI n (-1) = n + (-1) := if_pos (by omega)
  unfold boundsI
  rw [e1, e2]
  simp only
  split <;> split <;> first | omega | (apply Prod.ext <;> simp <;> omega)
theorem bounds_to (n k : Int) (h0 : 1 ≤ k) (h1 : k ≤ n) : boundsI n 0 (k - 1) = (0, k) := by
  have e1 : placeI n 0 = 0 := if_neg (by omega)
  have e2 : placeI n (k - 1) = k - 1 := if_neg (by omega)
  unfold boundsI
  rw [e1, e2]
  simp only
  split <;> first | omega | (apply Prod.ext <;> simp <;> omega)
/-- A row told from a place on. -/
theorem part_from (L : List (List UInt8)) (k : Nat) (hk : k ≤ L.length) (hL : L.length ≤ 1048576) : partB L (Lib.itoa (k : Int)) (Lib.itoa (-1)) = true ∧ partL L (Lib.itoa (k : Int)) (Lib.itoa (-1)) = L.drop k := by
  unfold partB partL
  rw [partV_itoa _ _ _ (by omega) (by omega)]
  split
  · have h0 : L = [] := List.eq_nil_of_length_eq_zero (by omega)
    subst h0
    exact ⟨rfl, by simp⟩
  · rw [bounds_from _ _ (by omega) (by omega) (by omega)]
    refine ⟨rfl, ?_⟩
    split
    · show (L.take ((L.length : Nat) : Int).toNat).drop ((k : Nat) : Int).toNat = _
      rw [show ((L.length : Nat) : Int).toNat = L.length by omega, show ((k : Nat) : Int).toNat = k by omega, List.take_length]
    · obtain rfl : k = L.length := by omega
      show (L.take (0 : Int).toNat).drop (0 : Int).toNat = _
      simp
/-- A row told up to a place. -/
theorem part_to (L : List (List UInt8)) (k : Nat) (h1 : 1 ≤ k) (hk : k ≤ L.length) (hL : L.length ≤ 1048576) : partB L (Lib.itoa 0) (Lib.itoa ((k : Int) - 1)) = true ∧ partL L (Lib.itoa 0) (Lib.itoa ((k : Int) - 1)) = L.take k := by
  unfold partB partL
  rw [partV_itoa _ _ _ (by omega) (by omega)]
  split
  · omega
  · rw [bounds_to _ _ (by omega) (by omega)]
    refine ⟨rfl, ?_⟩
    show (L.take ((k : Nat) : Int).toNat).drop (0 : Int).toNat = _
    rw [show ((k : Nat) : Int).toNat = k by omega]
    rfl
theorem part_all (L : List (List UInt8)) (hL : L.length ≤ 1048576) : partB L [48] [45, 49] = true ∧ partL L [48] [45, 49] = L := by
  have h := part_from L 0 (Nat.zero_le _) hL
  rw [show Lib.itoa ((0 : Nat) : Int) = [48] by decide +kernel, show Lib.itoa (-1) = [45, 49] by decide +kernel, List.drop_zero] at h
  exact h
theorem range_is {L : List (List UInt8)} {a b : List UInt8} {X : List (List UInt8)} (h : partB L a b = true ∧ partL L a b = X) : rowD 5 L [a, b] = (L, texts X) := by
  show (L, if partB L a b = true then texts (partL L a b) else eInt) = _
  rw [if_pos h.1, h.2]
theorem take_drop_one (M : List (List UInt8)) (k t : Nat) (ht : t ≤ M.length) (hk : k < t) : ((M.take t).drop k).take (((M.take t).drop k).length - 1) = (M.take (t - 1)).drop k := by
  rw [List.length_drop, List.length_take, List.drop_take, List.drop_take, List.take_take]
  congr 1
  omega
theorem mem_flat (L : List (List UInt8)) (s : List UInt8) (h : s ∈ L) : s.length ≤ L.flatten.length := mem_flat' L s h
theorem num_in {z : Int} (h : -4096 ≤ z ∧ z ≤ 4096) : IntKind.i64.wrap z = z ∧ wrap64 z = z := by
  refine ⟨IntWalk.i64_in _ (by omega), ?_⟩
  unfold wrap64
  omega
/-- A row of texts in memory. -/
structure SR (w : World) (q : Option Addr) (n c : Nat) (L : List (List UInt8)) : Prop where
  ln : L.length = n
  nc : n ≤ c
  cm : c ≤ 9223372036854775807
  nl : q = none → c = 0
  ss : StrT.Ss w q L
theorem SR.keep {w w' : World} {q : Option Addr} {n c : Nat} {L : List (List UInt8)} (h : SR w q n c L) (hb : Below w.heap.size w w') : SR w' q n c L := ⟨h.ln, h.nc, h.cm, h.nl, h.ss.keep hb⟩
theorem SR.of {base : Nat} {w : World} {v : Value} {L : List (List UInt8)} (h : OwnR strE base w v L) : ∃ q c, v = .slice q L.length c ∧ SR w q L.length c L := by
  obtain ⟨q, c, e, h1, h2, h3, h4, -⟩ := ownR_ss h
  exact ⟨q, c, e, rfl, h1, h2, h3, h4⟩
theorem SR.at_ {w : World} {q : Option Addr} {n c : Nat} {L : List (List UInt8)} (h : SR w q n c L) (j : Nat) (hj : j < n) (S : ByteArray) (hS : S.data.toList = wd L j) : ∃ b off, q = some ⟨b, off, none⟩ ∧ b < w.heap.size ∧ ∀ W, Below w.heap.size w W → W.cell? ⟨b, off + j, none⟩ = some (.string S) := by
  obtain ⟨b, off, S', e, hlt, hc, hS'⟩ := ss_at h.ss j (by rw [h.ln]; exact hj)
  obtain rfl : S' = S := same_bytes (hS'.trans hS.symm)
  exact ⟨b, off, e, hlt, fun W hW => (hW.cell (p := ⟨b, off + j, none⟩) hlt).trans hc⟩
theorem VB.sr {w : World} {g : Nat} {p : PV} {L : List (List UInt8)} (h : VB w g p) (hd : p.d = listV L) : SR w p.ql p.nl p.cl L := by
  obtain ⟨h1, h2, h3, h4, h5⟩ := pv_row h.pv hd
  exact ⟨h1.symm, h2, h3, h4, h5⟩
theorem VB.five {w : World} {g : Nat} {p q : PV} (h : VB w g p) (hq : q.In w) (hne : ∀ j, q.at_ j → j ≠ g) : VB (five w g (.int .u8 q.k) (.string q.S) (.slice q.ql q.nl q.cl) (.slice q.qh q.nh q.ch) (.slice q.qz q.nz q.cz)) g q :=
  ⟨val_five h.hp _ _ _ _ _, hq.same (by simp [ValM.five]) (fun k hk => five_other _ _ _ _ _ _ _ _ (hne k hk))⟩
/-- The words of a request, and a row behind them. -/
theorem lit2 (w : World) (a b : ByteArray) : OwnR strE w.heap.size (w.alloc (.cells #[.string a, .string b] 9)) (.slice (some ⟨w.heap.size, 0, none⟩) 2 2) [a.data.toList, b.data.toList] :=
  ownR_lit strE w.heap.size w _ [a.data.toList, b.data.toList] _ w.heap.size 2 rfl rfl rfl rfl (Nat.le_refl _) (by decide)
theorem sl_take (q : Option Addr) (n c m : Nat) (h : m ≤ c) (W : World) : (Instr.slice 22 (.slice q n c) none (some (.int .i64 (m : Int))) none).run Tryd.prog W = .ok (.slice q m c) W := by
  have := StrT.sl_hs q n c m h W
  rw [StrT.partAt_nought] at this
  exact this
theorem ix_at (b off n c j : Nat) (i : Int) (hi : i = (j : Int)) (hj : j < n) (W : World) : (Instr.indexAt 22 (.slice (some ⟨b, off, none⟩) n c) (.int .i64 i)).run Tryd.prog W = .ok (.pointer (some ⟨b, off + j, none⟩)) W := by
  subst hi
  have h0 : (0 : Int) ≤ (j : Int) := by omega
  have h1 : (j : Int) < (n : Int) := by omega
  go_simp

set_option maxHeartbeats 4000000 in
theorem shown_any (w : World) (hg : Gd w) : Calls Tryd.prog 8 #[] w fun e w' => e = .returned (.bool true) ∧ Below w.heap.size w w' := by
  have HG := Lib.hid (fun W (h : Below w.heap.size w W) => hg.keep h)
  have e1 : rowD 0 [[97]] [[98], [99]] = ([[99], [98], [97]], int 3) := rfl
  have e2 : rowD 5 [[97], [98], [99]] [[45, 50], [57]] = ([[97], [98], [99]], [42, 50, 13, 10, 36, 49, 13, 10, 98, 13, 10, 36, 49, 13, 10, 99, 13, 10]) := by decide +kernel
  have C1 := Lib.hid (fun (W : World) (g g2 : Nat) (hg2 : g2 = W.heap.size) (hW : Below w.heap.size w W) (hpv : PV.In W (pvL (some ⟨g, 0, none⟩) 1 1 [[97]])) => (show Calls Tryd.prog 12 #[.agg #[.int .u8 2, .string ⟨#[]⟩, .slice (some ⟨g, 0, none⟩) 1 1, .slice none 0 0, .slice none 0 0], .slice (some ⟨g2, 0, none⟩) 4 4] (W.alloc (.cells #[.string ⟨#[108, 112, 117, 115, 104]⟩, .string ⟨#[107]⟩, .string ⟨#[98]⟩, .string ⟨#[99]⟩] 9)) (DoN (listV [[99], [98], [97]]) (int 3) W) from by
    subst hg2
    exact don_to e1 (on4 0 (by decide) ⟨#[108, 112, 117, 115, 104]⟩ ⟨#[107]⟩ ⟨#[98]⟩ ⟨#[99]⟩ (by decide) (by decide) (by decide) (pvL (some ⟨g, 0, none⟩) 1 1 [[97]]) [[97]] W _ (Below.refl _ _) hpv rfl (HG.out W hW) (tame0 (by decide)))))
  have C2 := Lib.hid (fun (W : World) (g g2 : Nat) (hg2 : g2 = W.heap.size) (hW : Below w.heap.size w W) (hpv : PV.In W (pvL (some ⟨g, 0, none⟩) 3 3 [[97], [98], [99]])) => (show Calls Tryd.prog 12 #[.agg #[.int .u8 2, .string ⟨#[]⟩, .slice (some ⟨g, 0, none⟩) 3 3, .slice none 0 0, .slice none 0 0], .slice (some ⟨g2, 0, none⟩) 4 4] (W.alloc (.cells #[.string ⟨#[108, 114, 97, 110, 103, 101]⟩, .string ⟨#[107]⟩, .string ⟨#[45, 50]⟩, .string ⟨#[57]⟩] 9)) (DoN (listV [[97], [98], [99]]) [42, 50, 13, 10, 36, 49, 13, 10, 98, 13, 10, 36, 49, 13, 10, 99, 13, 10] W) from by
    subst hg2
    exact don_to e2 (on4 5 (by decide) ⟨#[108, 114, 97, 110, 103, 101]⟩ ⟨#[107]⟩ ⟨#[45, 50]⟩ ⟨#[57]⟩ (by decide) (by decide) (by decide) (pvL (some ⟨g, 0, none⟩) 3 3 [[97], [98], [99]]) [[97], [98], [99]] W _ (Below.refl _ _) hpv rfl (HG.out W hW) (tame5 (by decide) (by decide) (by decide) (by decide) (by decide)))))
  have HP1 := Lib.hid (pvL_in (q := some ⟨w.heap.size, 0, none⟩) (n := 1) (c := 1) (L := [[97]]) rfl (by decide) (by decide) (fun h => by cases h) (ss1_new w ⟨#[97]⟩) (by decide))
  have HBa := Lib.hid (Kit.below1 w (.cells #[.string ⟨#[97]⟩] 9))
  have HSa := Lib.hid (show w.heap.size + 1 = (w.alloc (.cells #[.string ⟨#[97]⟩] 9)).heap.size by simp)
  clear hg e1 e2
  go_enter Tryd.func8, Tryd.ntmps8
  go_wp2_with fail
  generalize w.alloc (.cells #[.string ⟨#[97]⟩] 9) = wa at HP1 HBa HSa ⊢
  with_reducible refine (C1.out wa w.heap.size _ HSa.out HBa.out HP1.out).mono ?_
  rintro e w1 ⟨p1, vr1, rfl, hI, hd, hn, hA, hb⟩
  obtain ⟨k1, S1, ql1, nl1, cl1, qh1, nh1, ch1, qz1, nz1, cz1, d1⟩ := p1
  dsimp only [PV.agg]
  obtain ⟨q1, c1, rfl, hv1⟩ := ans_text hA 4 (by decide +kernel) ⟨#[58, 51, 13, 10]⟩ (by decide +kernel)
  have HB1 := Lib.hid (HBa.out.trans (hb.mono HBa.out.size))
  have HV1 := Lib.hid (VB.new hI)
  have hb2 := Kit.below1 w1 (.cells #[.int .u8 k1, .string S1, .slice ql1 nl1 cl1, .slice qh1 nh1 ch1, .slice qz1 nz1 cz1] 26)
  have HR1 := Lib.hid (pv_row (pv_keep hI hb2) hd)
  dsimp only at HV1 HR1
  have HK1 := Lib.hid hv1
  have HB2 := Lib.hid (HB1.out.trans (hb2.mono HB1.out.size))
  have hss := ss3_new (w1.alloc (.cells #[.int .u8 k1, .string S1, .slice ql1 nl1 cl1, .slice qh1 nh1 ch1, .slice qz1 nz1 cz1] 26)) ⟨#[97]⟩ ⟨#[98]⟩ ⟨#[99]⟩
  rw [show (w1.alloc (.cells #[.int .u8 k1, .string S1, .slice ql1 nl1 cl1, .slice qh1 nh1 ch1, .slice qz1 nz1 cz1] 26)).heap.size = w1.heap.size + 1 by simp] at hss
  have HP2 := Lib.hid (pvL_in (q := some ⟨w1.heap.size + 1, 0, none⟩) (n := 3) (c := 3) (L := [[97], [98], [99]]) rfl (by decide) (by decide) (fun h => by cases h) hss (by decide))
  have hb3 := Kit.below1 (w1.alloc (.cells #[.int .u8 k1, .string S1, .slice ql1 nl1 cl1, .slice qh1 nh1 ch1, .slice qz1 nz1 cz1] 26)) (.cells #[.string ⟨#[97]⟩, .string ⟨#[98]⟩, .string ⟨#[99]⟩] 9)
  have HB3 := Lib.hid (HB2.out.trans (hb3.mono HB2.out.size))
  have HV3 := Lib.hid (HV1.out.keep hb3)
  have HW3 := Lib.hid (hb2.trans (hb3.mono hb2.size))
  have HSb := Lib.hid (show w1.heap.size + 1 + 1 = ((w1.alloc (.cells #[.int .u8 k1, .string S1, .slice ql1 nl1 cl1, .slice qh1 nh1 ch1, .slice qz1 nz1 cz1] 26)).alloc (.cells #[.string ⟨#[97]⟩, .string ⟨#[98]⟩, .string ⟨#[99]⟩] 9)).heap.size by simp)
  have hss3 := HR1.out.2.2.2.2.keep hb3
  obtain ⟨bb, off, e, hlt, hcc⟩ := hss3 (by decide)
  have n3 : nl1 = 3 := HR1.out.1
  have HCs := Lib.hid (fun W (hW : Below ((w1.alloc (.cells #[.int .u8 k1, .string S1, .slice ql1 nl1 cl1, .slice qh1 nh1 ch1, .slice qz1 nz1 cz1] 26)).alloc (.cells #[.string ⟨#[97]⟩, .string ⟨#[98]⟩, .string ⟨#[99]⟩] 9)).heap.size ((w1.alloc (.cells #[.int .u8 k1, .string S1, .slice ql1 nl1 cl1, .slice qh1 nh1 ch1, .slice qz1 nz1 cz1] 26)).alloc (.cells #[.string ⟨#[97]⟩, .string ⟨#[98]⟩, .string ⟨#[99]⟩] 9)) W) => And.intro ((hW.cell (p := ⟨bb, off + 0, none⟩) hlt).trans (hcc 0 (by decide))) ((hW.cell (p := ⟨bb, off + 2, none⟩) hlt).trans (hcc 2 (by decide))))
  rw [Nat.add_zero] at HCs
  subst e n3
  clear hI hd hn hA hb hv1 C1 HP1 HBa HSa HB1 HB2 HV1 HR1 hss hss3 hcc hlt hb2 hb3
  go_wp2_with fail
  generalize (w1.alloc _).alloc _ = w2 at HP2 HB3 HV3 HW3 HSb HCs ⊢
  with_reducible refine (C2.out w2 _ _ HSb.out HB3.out HP2.out).mono ?_
  rintro e w3 ⟨p2, vr2, rfl, hI, hd, hn, hA, hb⟩
  obtain ⟨k2, S2, ql2, nl2, cl2, qh2, nh2, ch2, qz2, nz2, cz2, d2⟩ := p2
  dsimp only [PV.agg]
  obtain ⟨q2, c2, rfl, hv2⟩ := ans_text hA 18 (by decide +kernel) ⟨#[42, 50, 13, 10, 36, 49, 13, 10, 98, 13, 10, 36, 49, 13, 10, 99, 13, 10]⟩ (by decide +kernel)
  have hb4 := Kit.below1 w3 (.cells #[.int .u8 k2, .string S2, .slice ql2 nl2 cl2, .slice qh2 nh2 ch2, .slice qz2 nz2 cz2] 26)
  have hb5 := hb.trans (hb4.mono hb.size)
  have HB4 := Lib.hid (HB3.out.trans (hb5.mono HB3.out.size))
  have HV4 := Lib.hid (HV3.out.keep hb5)
  have hv1 := HK1.out _ (HW3.out.trans (hb5.mono HW3.out.size))
  have hv2 := hv2 _ hb4
  obtain ⟨x0, x2⟩ := HCs.out _ hb5
  obtain ⟨-, -, a0, a1, a2, a3, a4⟩ := HV4.out.room
  dsimp only at a0 a1 a2 a3 a4 x0 x2
  clear hI hd hn hA hb hb4 hb5 C2 HP2 HB3 HV3 HW3 HK1 HCs HSb
  go_wp2_with fail
  generalize w3.alloc _ = w4 at *
  go_ret
  exact ⟨rfl, HB4.out⟩

end Go.Proofs.YteadjcligmmkmaaDoor.LisL
