/-
  HashesBack: what was set is got, no other name changes, it is counted once; it is got no more when it is taken out.
-/
import Derived.Test.YtjikppjlkicgpaaDoorHashesBackLoop
import Derived.Deep.QuietTactic
import Derived.Deep.DeepCutAuto
import Derived.BigQuiet
import Derived.StillTailTactics
import Derived.Deep.RegionLaw
namespace Go.Proofs.YtjikppjlkicgpaaDoor.hashesBack
open Go.RowKit Kit StrT RowG BOrd ValT StoT ReplyT ReplyMath ValM BytesIn DoT Low LstT HasT NumL NumW NumMath HasM SaidT RefR DoV LawK HasL RefV
set_option linter.unusedVariables false
set_option maxRecDepth 100000
-- ASKS: NumL.Gd
-- UPTO


theorem fit_kind (d : V) : (fitV d).kind ≤ 255 := by
  unfold fitV v0
  repeat' split
  all_goals simp
theorem set_row (H : List Pr) (k v : List UInt8) : rowD 0 H [k, v] = (setP H k v, int (newN (getP H k))) := rfl
theorem set_twice {H : List Pr} (h : Up H) (k v u : List UInt8) : rowD 0 (setP H k v) [k, u] = (setP H k u, int 0) := by
  show (setP (setP H k v) k u, int (newN (getP (setP H k v) k))) = _
  rw [set_again h, get_set_same]
  rfl
theorem got_set (H : List Pr) (k u : List UInt8) : rowD 1 (setP H k u) [k] = (setP H k u, bulk u) := by
  show (setP H k u, gotR (getP (setP H k u) k)) = _
  rw [get_set_same]
  rfl
theorem two_of (k m : List UInt8) : m ∈ [k, k] ↔ m = k := by simp
theorem del_row {H : List Pr} (h : Up H) (k u : List UInt8) : rowD 2 (setP H k u) [k, k] = (delP (setP H k u) [k, k], int 1) := by
  show (delP (setP H k u) [k, k], int (((setP H k u).length : Int) - ((delP (setP H k u) [k, k]).length : Int))) = _
  have h1 := del_one (set_up k u h) k (by rw [get_set_same]; simp) [k, k] (two_of k)
  rw [show ((setP H k u).length : Int) - ((delP (setP H k u) [k, k]).length : Int) = 1 by omega]
theorem none_of (H : List Pr) (k u : List UInt8) : rowD 1 (delP (setP H k u) [k, k]) [k] = (delP (setP H k u) [k, k], null) := by
  show (delP (setP H k u) [k, k], gotR (getP (delP (setP H k u) [k, k]) k)) = _
  rw [get_del, if_pos (by simp)]
  rfl
theorem set_vals {H : List Pr} {k u : List UInt8} (hH : ∀ x ∈ H, x.val.length ≤ 1048576) (hu : u.length ≤ 1048576) : ∀ x ∈ setP H k u, x.val.length ≤ 1048576 := by
  intro x hx
  rcases set_mem hx with rfl | hx
  · exact hu
  · exact hH x hx
theorem del_vals {H : List Pr} {ns : List (List UInt8)} (hH : ∀ x ∈ H, x.val.length ≤ 1048576) : ∀ x ∈ delP H ns, x.val.length ≤ 1048576 := fun x hx => hH x (List.mem_filter.1 hx).1

set_option maxHeartbeats 16000000 in
theorem walk (q : Option Addr) (L : List Pr) (n c : Nat) (nm : ByteArray) (s0 s1 : ByteArray) (w : World) (hL : L.length = n) (h : Rs prE w q L) (hz : ∀ x ∈ L, x.name.length ≤ 140737488351232 ∧ x.val.length ≤ 140737488351232) (hcap : n ≤ c) (hcm : c ≤ 9223372036854775807) (hnil : q = none → c = 0) (hup : (allP L).flatten.length + L.length ≤ 1048576) (hnz : nm.size ≤ 140737488351232) (hz0 : s0.size ≤ 140737488351232) (hz1 : s1.size ≤ 140737488351232) (hg : Gd w) :
    Calls Tryd.prog 4 #[.slice q n c, .string nm, .agg #[.string s0, .string s1]] w fun e w' => e = .returned (.bool true) ∧ Below w.heap.size w w' := by
  have HG := Lib.hid (fun W (h : Below w.heap.size w W) => hg.keep h)
  have C0 := Lib.hid (fun W (h : Below w.heap.size w W) => shown_any W (hg.keep h))
  have CFi := Lib.hid (fun W (hW : Below w.heap.size w W) => rfit 3 ⟨#[]⟩ none 0 0 q n c none 0 0 ⟨3, [], [], L, []⟩ W ⟨rfl, by simp, rfl, Rs.nil _ _ _, h.keep hW, Rs.nil _ _ _, rfl, hL, rfl, by simp, hcap, by simp, by simp, hcm, by simp, fun _ => rfl, hnil, fun _ => rfl⟩ (by decide))
  obtain ⟨H, hH, hHu, hH8, hHl⟩ := fit_pairs L (by omega)
  have HH := Lib.hid hH
  have HU := Lib.hid hHu
  have H8 := Lib.hid hH8
  have HVv := Lib.hid (show ∀ x ∈ H, x.val.length ≤ 1048576 from fun x hx => Nat.le_trans (val_le hx) hHl)
  obtain ⟨Kn, hKn⟩ : ∃ Kn : ByteArray, Kn = if nm.size ≤ 20 then nm else nm.extract 0 20 := ⟨_, rfl⟩
  have hKnz := cutN hKn
  obtain ⟨mk, hmk⟩ : ∃ mk : Nat, mk = min nm.size 20 := ⟨_, rfl⟩
  have hminmk : min (nm.size : Int) 20 = (mk : Int) := by omega
  have slKn : ∀ W, (Instr.slice 9 (.string nm) none (some (.int .i64 (mk : Int))) none).run Tryd.prog W = .ok (.string Kn) W := fun W => by
    have h := run_slice_string_h (P := Tryd.prog) W 9 nm Tryd.underlying9 .i64 (mk : Int) (by omega) (by omega)
    rw [h, hKn]
    split
    · rw [show ((mk : Nat) : Int).toNat = nm.size by omega, ByteArray.extract_zero_size]
    · rw [show ((mk : Nat) : Int).toNat = 20 by omega]
  clear hKn hmk
  obtain ⟨Sa, hSa⟩ : ∃ Sa : ByteArray, Sa = if s0.size ≤ 20 then s0 else s0.extract 0 20 := ⟨_, rfl⟩
  have hSaz := cutN hSa
  obtain ⟨ma, hma⟩ : ∃ ma : Nat, ma = min s0.size 20 := ⟨_, rfl⟩
  have hminma : min (s0.size : Int) 20 = (ma : Int) := by omega
  have slSa : ∀ W, (Instr.slice 9 (.string s0) none (some (.int .i64 (ma : Int))) none).run Tryd.prog W = .ok (.string Sa) W := fun W => by
    have h := run_slice_string_h (P := Tryd.prog) W 9 s0 Tryd.underlying9 .i64 (ma : Int) (by omega) (by omega)
    rw [h, hSa]
    split
    · rw [show ((ma : Nat) : Int).toNat = s0.size by omega, ByteArray.extract_zero_size]
    · rw [show ((ma : Nat) : Int).toNat = 20 by omega]
  clear hSa hma
  obtain ⟨Sb, hSb⟩ : ∃ Sb : ByteArray, Sb = if s1.size ≤ 20 then s1 else s1.extract 0 20 := ⟨_, rfl⟩
  have hSbz := cutN hSb
  obtain ⟨mb, hmb⟩ : ∃ mb : Nat, mb = min s1.size 20 := ⟨_, rfl⟩
  have hminmb : min (s1.size : Int) 20 = (mb : Int) := by omega
  have slSb : ∀ W, (Instr.slice 9 (.string s1) none (some (.int .i64 (mb : Int))) none).run Tryd.prog W = .ok (.string Sb) W := fun W => by
    have h := run_slice_string_h (P := Tryd.prog) W 9 s1 Tryd.underlying9 .i64 (mb : Int) (by omega) (by omega)
    rw [h, hSb]
    split
    · rw [show ((mb : Nat) : Int).toNat = s1.size by omega, ByteArray.extract_zero_size]
    · rw [show ((mb : Nat) : Int).toNat = 20 by omega]
  clear hSb hmb
  have HBx := Lib.hid (Kit.below1 w (.cells #[.string s0, .string s1] 34))
  have HX := Lib.hid (fun W (hW : Below (w.alloc (.cells #[.string s0, .string s1] 34)).heap.size (w.alloc (.cells #[.string s0, .string s1] 34)) W) => (show W.cell? ⟨w.heap.size, 0, none⟩ = some (.string s0) ∧ W.cell? ⟨w.heap.size, 1, none⟩ = some (.string s1) from
    ⟨(hW.cell (p := ⟨w.heap.size, 0, none⟩) (by simp)).trans (by simp [World.cell?_alloc_mark]), (hW.cell (p := ⟨w.heap.size, 1, none⟩) (by simp)).trans (by simp [World.cell?_alloc_mark])⟩))
  obtain ⟨NB, HNB⟩ : ∃ NR, Hid ((bulk Sb.data.toList).length = NR) := ⟨_, Lib.hid rfl⟩
  obtain ⟨XB, HXB⟩ : ∃ XR : ByteArray, Hid (XR.data.toList = bulk Sb.data.toList) := ⟨⟨(bulk Sb.data.toList).toArray⟩, Lib.hid rfl⟩
  obtain ⟨NN, HNN⟩ : ∃ NR, Hid (null.length = NR) := ⟨_, Lib.hid rfl⟩
  obtain ⟨XN, HXN⟩ : ∃ XR : ByteArray, Hid (XR.data.toList = null) := ⟨⟨null.toArray⟩, Lib.hid rfl⟩
  obtain ⟨G, hG⟩ : ∃ G, G = delP (setP H Kn.data.toList Sb.data.toList) [Kn.data.toList, Kn.data.toList] := ⟨_, rfl⟩
  have HGe := Lib.hid hG
  obtain ⟨NI, HNI⟩ : ∃ NR, Hid ((int (G.length : Int)).length = NR) := ⟨_, Lib.hid rfl⟩
  obtain ⟨XI, HXI⟩ : ∃ XR : ByteArray, Hid (XR.data.toList = int (G.length : Int)) := ⟨⟨(int (G.length : Int)).toArray⟩, Lib.hid rfl⟩
  have HGl := Lib.hid (show (setP H Kn.data.toList Sb.data.toList).length = G.length + 1 from by
    rw [hG]
    exact (del_one (set_up _ _ hHu) _ (by rw [get_set_same]; simp) _ (two_of _)).symm)
  have HGb := Lib.hid (show G.length ≤ 9 from by
    have h1 := set_len Kn.data.toList Sb.data.toList hHu
    have h2 := del_len (setP H Kn.data.toList Sb.data.toList) [Kn.data.toList, Kn.data.toList]
    rw [← hG] at h2
    split at h1 <;> omega)
  have HUa := Lib.hid (set_up Kn.data.toList Sa.data.toList hHu)
  have HUb := Lib.hid (set_up Kn.data.toList Sb.data.toList hHu)
  have HUg := Lib.hid (show Up G by rw [hG]; exact del_up _ (set_up _ _ hHu))
  have HSb := Lib.hid (show Sb.data.toList.length ≤ 1048576 by rw [str_len]; omega)
  have HVb := Lib.hid (set_vals (k := Kn.data.toList) HVv.out HSb.out)
  have HVg := Lib.hid (show ∀ x ∈ G, x.val.length ≤ 1048576 by rw [hG]; exact del_vals HVb.out)
  have HLa := Lib.hid (show (setP H Kn.data.toList Sa.data.toList).length ≤ 9 from by
    have h1 := set_len Kn.data.toList Sa.data.toList hHu
    split at h1 <;> omega)
  clear h hz hcm hnil hup hg hL hH hHu hHl hG
  go_enter Tryd.func4, Tryd.ntmps4
  go_upto_region 1 with fail
  generalize hgb : w.heap.size = gb at HX ⊢
  generalize w.alloc (.cells #[.string s0, .string s1] 34) = w0 at HBx HX ⊢
  subst hgb
  go_wp2_with fail
  with_reducible refine (C0.out w0 HBx.out).mono ?_
  rintro e w1 ⟨rfl, hb1⟩
  have HB := Lib.hid (HBx.out.trans (hb1.mono HBx.out.size))
  have HX := Lib.hid (fun W hW => HX.out W (hb1.trans (Below.mono hW hb1.size)))
  clear hb1 HBx C0
  go_wp2_with fail
  with_reducible refine (CFi.out w1 HB.out).mono ?_
  rintro e w2 ⟨v, rfl, hA, hb⟩
  obtain ⟨p8, rfl, hI, hd, -, -⟩ := pv_of hA (fit_kind _) (fit_len _).1 (fit_len _).2.1 (fit_len _).2.2
  obtain ⟨k8, S8, ql8, nl8, cl8, qh8, nh8, ch8, qz8, nz8, cz8, d8⟩ := p8
  dsimp only [PV.agg]
  have hd : d8 = hashV H := Eq.trans hd HH.out
  have hn : True := trivial
  have hbn := hb.trans ((Kit.below1 w2 (.cells #[.int .u8 k8, .string S8, .slice ql8 nl8 cl8, .slice qh8 nh8 ch8, .slice qz8 nz8 cz8] 26)).mono hb.size)
  have HX := Lib.hid (fun W hW => HX.out W (hbn.trans (Below.mono hW hbn.size)))
  have HB := Lib.hid (HB.out.trans (hbn.mono HB.out.size))
  have HV8 := Lib.hid (show VB _ w2.heap.size ⟨k8, S8, ql8, nl8, cl8, qh8, nh8, ch8, qz8, nz8, cz8, d8⟩ from VB.new hI)
  have HD8 := Lib.hid (show PV.d ⟨k8, S8, ql8, nl8, cl8, qh8, nh8, ch8, qz8, nz8, cz8, d8⟩ = _ from hd)
  have HL8 := Lib.hid (show w1.heap.size ≤ w2.heap.size from Below.size hb)
  clear hI hd hn hA hb hbn
  go_upto_region 3 with fail
  generalize hgg : w2.heap.size = g8 at HV8 HL8 ⊢
  clear hgg
  generalize w2.alloc (.cells #[.int .u8 k8, .string S8, .slice ql8 nl8 cl8, .slice qh8 nh8 ch8, .slice qz8 nz8 cz8] 26) = w3 at HV8 HX HB ⊢
  clear CFi HL8
  obtain ⟨x0, x1⟩ := HX.out w3 (Below.refl _ _)
  go_upto_region 6 with fail
  clear x0 x1 HX
  have C1 := Lib.hid (fun (W Y : World) (g : Nat) (hY : Below (W.alloc (.cells #[.string ⟨#[104, 115, 101, 116]⟩, .string ⟨#[107]⟩, .string Kn, .string Sa] 9)).heap.size (W.alloc (.cells #[.string ⟨#[104, 115, 101, 116]⟩, .string ⟨#[107]⟩, .string Kn, .string Sa] 9)) Y) (hgw : g = W.heap.size) (hW : Below w.heap.size w W) (hpv : PV.In W ⟨k8, S8, ql8, nl8, cl8, qh8, nh8, ch8, qz8, nz8, cz8, d8⟩) (hdv : PV.d ⟨k8, S8, ql8, nl8, cl8, qh8, nh8, ch8, qz8, nz8, cz8, d8⟩ = hashV (H)) => (show Calls Tryd.prog 11 #[.agg #[.int .u8 k8, .string S8, .slice ql8 nl8 cl8, .slice qh8 nh8 ch8, .slice qz8 nz8 cz8], .slice (some ⟨g, 0, none⟩) 4 4] Y (DoN (hashV (setP H Kn.data.toList Sa.data.toList)) (int (newN (getP H Kn.data.toList))) W) from by subst hgw; exact don_to (set_row _ _ _) (on4 0 (by decide) ⟨#[104, 115, 101, 116]⟩ ⟨#[107]⟩ Kn Sa (by decide) (by decide) (by decide) ⟨k8, S8, ql8, nl8, cl8, qh8, nh8, ch8, qz8, nz8, cz8, d8⟩ (H) W Y hY hpv hdv (HG.out W hW) (tame0 HU.out (Nat.le_refl 2) (by have := H8.out; omega)))))
  obtain ⟨-, -, ra0, ra1, ra2, ra3, ra4⟩ := HV8.out.room
  dsimp only at ra0 ra1 ra2 ra3 ra4
  go_wp2_with fail
  clear ra0 ra1 ra2 ra3 ra4
  with_reducible refine (C1.out w3 _ _ (Below.refl _ _) rfl HB.out HV8.out.pv HD8.out).mono ?_
  rintro e wa ⟨p1, vr1, rfl, hI, hd, hn, hA, hb⟩
  obtain ⟨k1, S1, ql1, nl1, cl1, qh1, nh1, ch1, qz1, nz1, cz1, d1⟩ := p1
  dsimp only [PV.agg]
  have hbn := hb.trans ((Kit.below1 wa (.cells #[.int .u8 k1, .string S1, .slice ql1 nl1 cl1, .slice qh1 nh1 ch1, .slice qz1 nz1 cz1] 26)).mono hb.size)
  have HV8 := Lib.hid (HV8.out.keep hbn)
  have HB := Lib.hid (HB.out.trans (hbn.mono HB.out.size))
  have HV1 := Lib.hid (show VB _ wa.heap.size ⟨k1, S1, ql1, nl1, cl1, qh1, nh1, ch1, qz1, nz1, cz1, d1⟩ from VB.new hI)
  have HD1 := Lib.hid (show PV.d ⟨k1, S1, ql1, nl1, cl1, qh1, nh1, ch1, qz1, nz1, cz1, d1⟩ = _ from hd)
  have HL1 := Lib.hid (show w3.heap.size ≤ wa.heap.size from Below.size hb)
  clear hI hd hn hA hb hbn
  go_upto_region 7 with fail
  generalize hgg : wa.heap.size = g1 at HV1 HL1 ⊢
  clear hgg
  generalize wa.alloc (.cells #[.int .u8 k1, .string S1, .slice ql1 nl1 cl1, .slice qh1 nh1 ch1, .slice qz1 nz1 cz1] 26) = w4 at HV1 HV8 HB ⊢
  clear C1 HL1
  have C1 := Lib.hid (fun (W Y : World) (g : Nat) (hY : Below (W.alloc (.cells #[.string ⟨#[104, 115, 101, 116]⟩, .string ⟨#[107]⟩, .string Kn, .string Sb] 9)).heap.size (W.alloc (.cells #[.string ⟨#[104, 115, 101, 116]⟩, .string ⟨#[107]⟩, .string Kn, .string Sb] 9)) Y) (hgw : g = W.heap.size) (hW : Below w.heap.size w W) (hpv : PV.In W ⟨k1, S1, ql1, nl1, cl1, qh1, nh1, ch1, qz1, nz1, cz1, d1⟩) (hdv : PV.d ⟨k1, S1, ql1, nl1, cl1, qh1, nh1, ch1, qz1, nz1, cz1, d1⟩ = hashV (setP H Kn.data.toList Sa.data.toList)) => (show Calls Tryd.prog 11 #[.agg #[.int .u8 k1, .string S1, .slice ql1 nl1 cl1, .slice qh1 nh1 ch1, .slice qz1 nz1 cz1], .slice (some ⟨g, 0, none⟩) 4 4] Y (DoN (hashV (setP H Kn.data.toList Sb.data.toList)) (int 0) W) from by subst hgw; exact don_to (set_twice HU.out _ _ _) (on4 0 (by decide) ⟨#[104, 115, 101, 116]⟩ ⟨#[107]⟩ Kn Sb (by decide) (by decide) (by decide) ⟨k1, S1, ql1, nl1, cl1, qh1, nh1, ch1, qz1, nz1, cz1, d1⟩ (setP H Kn.data.toList Sa.data.toList) W Y hY hpv hdv (HG.out W hW) (tame0 HUa.out (Nat.le_refl 2) (by have := HLa.out; omega)))))
  obtain ⟨-, -, ra0, ra1, ra2, ra3, ra4⟩ := HV1.out.room
  dsimp only at ra0 ra1 ra2 ra3 ra4
  go_wp2_with fail
  clear ra0 ra1 ra2 ra3 ra4
  with_reducible refine (C1.out w4 _ _ (Below.refl _ _) rfl HB.out HV1.out.pv HD1.out).mono ?_
  rintro e wa ⟨p2, vr2, rfl, hI, hd, hn, hA, hb⟩
  obtain ⟨k2, S2, ql2, nl2, cl2, qh2, nh2, ch2, qz2, nz2, cz2, d2⟩ := p2
  dsimp only [PV.agg]
  obtain ⟨qr2, cr2, rfl, hv2⟩ := ans_text hA 4 (by decide +kernel) ⟨#[58, 48, 13, 10]⟩ (by decide +kernel)
  have hbn := hb.trans ((Kit.below1 wa (.cells #[.int .u8 k2, .string S2, .slice ql2 nl2 cl2, .slice qh2 nh2 ch2, .slice qz2 nz2 cz2] 26)).mono hb.size)
  have HV8 := Lib.hid (HV8.out.keep hbn)
  have HB := Lib.hid (HB.out.trans (hbn.mono HB.out.size))
  have HV2 := Lib.hid (show VB _ wa.heap.size ⟨k2, S2, ql2, nl2, cl2, qh2, nh2, ch2, qz2, nz2, cz2, d2⟩ from VB.new hI)
  have HD2 := Lib.hid (show PV.d ⟨k2, S2, ql2, nl2, cl2, qh2, nh2, ch2, qz2, nz2, cz2, d2⟩ = _ from hd)
  have hbx := Kit.below1 wa (.cells #[.int .u8 k2, .string S2, .slice ql2 nl2 cl2, .slice qh2 nh2 ch2, .slice qz2 nz2 cz2] 26)
  have HC2 := Lib.hid (fun W hW => hv2 W (hbx.trans (Below.mono hW hbx.size)))
  clear hbx
  have HL2 := Lib.hid (show w4.heap.size ≤ wa.heap.size from Below.size hb)
  clear hI hd hn hA hb hbn hv2
  go_upto_region 8 with fail
  generalize hgg : wa.heap.size = g2 at HV2 HL2 ⊢
  clear hgg
  generalize wa.alloc (.cells #[.int .u8 k2, .string S2, .slice ql2 nl2 cl2, .slice qh2 nh2 ch2, .slice qz2 nz2 cz2] 26) = w5 at HV2 HV8 HB HC2 ⊢
  clear C1 HL2
  have C1 := Lib.hid (fun (W Y : World) (g : Nat) (hY : Below (W.alloc (.cells #[.string ⟨#[104, 103, 101, 116]⟩, .string ⟨#[107]⟩, .string Kn] 9)).heap.size (W.alloc (.cells #[.string ⟨#[104, 103, 101, 116]⟩, .string ⟨#[107]⟩, .string Kn] 9)) Y) (hgw : g = W.heap.size) (hW : Below w.heap.size w W) (hpv : PV.In W ⟨k2, S2, ql2, nl2, cl2, qh2, nh2, ch2, qz2, nz2, cz2, d2⟩) (hdv : PV.d ⟨k2, S2, ql2, nl2, cl2, qh2, nh2, ch2, qz2, nz2, cz2, d2⟩ = hashV (setP H Kn.data.toList Sb.data.toList)) => (show Calls Tryd.prog 11 #[.agg #[.int .u8 k2, .string S2, .slice ql2 nl2 cl2, .slice qh2 nh2 ch2, .slice qz2 nz2 cz2], .slice (some ⟨g, 0, none⟩) 3 3] Y (DoN (hashV (setP H Kn.data.toList Sb.data.toList)) (bulk Sb.data.toList) W) from by subst hgw; exact don_to (got_set _ _ _) (on3 1 (by decide) ⟨#[104, 103, 101, 116]⟩ ⟨#[107]⟩ Kn (by decide) (by decide) (by decide) ⟨k2, S2, ql2, nl2, cl2, qh2, nh2, ch2, qz2, nz2, cz2, d2⟩ (setP H Kn.data.toList Sb.data.toList) W Y hY hpv hdv (HG.out W hW) (tame1 HUb.out (Nat.le_refl 1) HVb.out))))
  obtain ⟨-, -, ra0, ra1, ra2, ra3, ra4⟩ := HV2.out.room
  dsimp only at ra0 ra1 ra2 ra3 ra4
  go_wp2_with fail
  clear ra0 ra1 ra2 ra3 ra4
  with_reducible refine (C1.out w5 _ _ (Below.refl _ _) rfl HB.out HV2.out.pv HD2.out).mono ?_
  rintro e wa ⟨p3, vr3, rfl, hI, hd, hn, hA, hb⟩
  obtain ⟨k3, S3, ql3, nl3, cl3, qh3, nh3, ch3, qz3, nz3, cz3, d3⟩ := p3
  dsimp only [PV.agg]
  obtain ⟨qr3, cr3, rfl, hv3⟩ := ans_text hA NB HNB.out XB HXB.out
  have hbn := hb.trans ((Kit.below1 wa (.cells #[.int .u8 k3, .string S3, .slice ql3 nl3 cl3, .slice qh3 nh3 ch3, .slice qz3 nz3 cz3] 26)).mono hb.size)
  have HV8 := Lib.hid (HV8.out.keep hbn)
  have HV2 := Lib.hid (HV2.out.keep hbn)
  have HC2 := Lib.hid (fun W hW => HC2.out W (hbn.trans (Below.mono hW hbn.size)))
  have HB := Lib.hid (HB.out.trans (hbn.mono HB.out.size))
  have HV3 := Lib.hid (show VB _ wa.heap.size ⟨k3, S3, ql3, nl3, cl3, qh3, nh3, ch3, qz3, nz3, cz3, d3⟩ from VB.new hI)
  have HD3 := Lib.hid (show PV.d ⟨k3, S3, ql3, nl3, cl3, qh3, nh3, ch3, qz3, nz3, cz3, d3⟩ = _ from hd)
  have hbx := Kit.below1 wa (.cells #[.int .u8 k3, .string S3, .slice ql3 nl3 cl3, .slice qh3 nh3 ch3, .slice qz3 nz3 cz3] 26)
  have HC3 := Lib.hid (fun W hW => hv3 W (hbx.trans (Below.mono hW hbx.size)))
  clear hbx
  have HL3 := Lib.hid (show w5.heap.size ≤ wa.heap.size from Below.size hb)
  clear hI hd hn hA hb hbn hv3
  go_upto_region 9 with fail
  generalize hgg : wa.heap.size = g3 at HV3 HL3 ⊢
  clear hgg
  generalize wa.alloc (.cells #[.int .u8 k3, .string S3, .slice ql3 nl3 cl3, .slice qh3 nh3 ch3, .slice qz3 nz3 cz3] 26) = w6 at HV3 HV8 HV2 HC2 HB HC3 ⊢
  clear C1 HL3
  have C1 := Lib.hid (fun (W Y : World) (g : Nat) (hY : Below (W.alloc (.cells #[.string ⟨#[104, 100, 101, 108]⟩, .string ⟨#[107]⟩, .string Kn, .string Kn] 9)).heap.size (W.alloc (.cells #[.string ⟨#[104, 100, 101, 108]⟩, .string ⟨#[107]⟩, .string Kn, .string Kn] 9)) Y) (hgw : g = W.heap.size) (hW : Below w.heap.size w W) (hpv : PV.In W ⟨k2, S2, ql2, nl2, cl2, qh2, nh2, ch2, qz2, nz2, cz2, d2⟩) (hdv : PV.d ⟨k2, S2, ql2, nl2, cl2, qh2, nh2, ch2, qz2, nz2, cz2, d2⟩ = hashV (setP H Kn.data.toList Sb.data.toList)) => (show Calls Tryd.prog 11 #[.agg #[.int .u8 k2, .string S2, .slice ql2 nl2 cl2, .slice qh2 nh2 ch2, .slice qz2 nz2 cz2], .slice (some ⟨g, 0, none⟩) 4 4] Y (DoN (hashV (G)) (int 1) W) from by subst hgw; exact don_to (by rw [HGe.out]; exact del_row HU.out _ _) (on4 2 (by decide) ⟨#[104, 100, 101, 108]⟩ ⟨#[107]⟩ Kn Kn (by decide) (by decide) (by decide) ⟨k2, S2, ql2, nl2, cl2, qh2, nh2, ch2, qz2, nz2, cz2, d2⟩ (setP H Kn.data.toList Sb.data.toList) W Y hY hpv hdv (HG.out W hW) (tame2 HUb.out (by simp)))))
  obtain ⟨-, -, ra0, ra1, ra2, ra3, ra4⟩ := HV2.out.room
  dsimp only at ra0 ra1 ra2 ra3 ra4
  go_wp2_with fail
  clear ra0 ra1 ra2 ra3 ra4
  with_reducible refine (C1.out w6 _ _ (Below.refl _ _) rfl HB.out HV2.out.pv HD2.out).mono ?_
  rintro e wa ⟨p4, vr4, rfl, hI, hd, hn, hA, hb⟩
  obtain ⟨k4, S4, ql4, nl4, cl4, qh4, nh4, ch4, qz4, nz4, cz4, d4⟩ := p4
  dsimp only [PV.agg]
  obtain ⟨qr4, cr4, rfl, hv4⟩ := ans_text hA 4 (by decide +kernel) ⟨#[58, 49, 13, 10]⟩ (by decide +kernel)
  have hbn := hb.trans ((Kit.below1 wa (.cells #[.int .u8 k4, .string S4, .slice ql4 nl4 cl4, .slice qh4 nh4 ch4, .slice qz4 nz4 cz4] 26)).mono hb.size)
  have HV8 := Lib.hid (HV8.out.keep hbn)
  have HV2 := Lib.hid (HV2.out.keep hbn)
  have HC2 := Lib.hid (fun W hW => HC2.out W (hbn.trans (Below.mono hW hbn.size)))
  have HC3 := Lib.hid (fun W hW => HC3.out W (hbn.trans (Below.mono hW hbn.size)))
  have HB := Lib.hid (HB.out.trans (hbn.mono HB.out.size))
  have HV4 := Lib.hid (show VB _ wa.heap.size ⟨k4, S4, ql4, nl4, cl4, qh4, nh4, ch4, qz4, nz4, cz4, d4⟩ from VB.new hI)
  have HD4 := Lib.hid (show PV.d ⟨k4, S4, ql4, nl4, cl4, qh4, nh4, ch4, qz4, nz4, cz4, d4⟩ = _ from hd)
  have hbx := Kit.below1 wa (.cells #[.int .u8 k4, .string S4, .slice ql4 nl4 cl4, .slice qh4 nh4 ch4, .slice qz4 nz4 cz4] 26)
  have HC4 := Lib.hid (fun W hW => hv4 W (hbx.trans (Below.mono hW hbx.size)))
  clear hbx
  have HL4 := Lib.hid (show w6.heap.size ≤ wa.heap.size from Below.size hb)
  clear hI hd hn hA hb hbn hv4
  go_upto_region 10 with fail
  generalize hgg : wa.heap.size = g4 at HV4 HL4 ⊢
  clear hgg
  generalize wa.alloc (.cells #[.int .u8 k4, .string S4, .slice ql4 nl4 cl4, .slice qh4 nh4 ch4, .slice qz4 nz4 cz4] 26) = w7 at HV4 HV8 HV2 HC2 HC3 HB HC4 ⊢
  clear C1 HL4
  have C1 := Lib.hid (fun (W Y : World) (g : Nat) (hY : Below (W.alloc (.cells #[.string ⟨#[104, 103, 101, 116]⟩, .string ⟨#[107]⟩, .string Kn] 9)).heap.size (W.alloc (.cells #[.string ⟨#[104, 103, 101, 116]⟩, .string ⟨#[107]⟩, .string Kn] 9)) Y) (hgw : g = W.heap.size) (hW : Below w.heap.size w W) (hpv : PV.In W ⟨k4, S4, ql4, nl4, cl4, qh4, nh4, ch4, qz4, nz4, cz4, d4⟩) (hdv : PV.d ⟨k4, S4, ql4, nl4, cl4, qh4, nh4, ch4, qz4, nz4, cz4, d4⟩ = hashV (G)) => (show Calls Tryd.prog 11 #[.agg #[.int .u8 k4, .string S4, .slice ql4 nl4 cl4, .slice qh4 nh4 ch4, .slice qz4 nz4 cz4], .slice (some ⟨g, 0, none⟩) 3 3] Y (DoN (hashV (G)) (null) W) from by subst hgw; exact don_to (by rw [HGe.out]; exact none_of _ _ _) (on3 1 (by decide) ⟨#[104, 103, 101, 116]⟩ ⟨#[107]⟩ Kn (by decide) (by decide) (by decide) ⟨k4, S4, ql4, nl4, cl4, qh4, nh4, ch4, qz4, nz4, cz4, d4⟩ (G) W Y hY hpv hdv (HG.out W hW) (tame1 HUg.out (Nat.le_refl 1) HVg.out))))
  obtain ⟨-, -, ra0, ra1, ra2, ra3, ra4⟩ := HV4.out.room
  dsimp only at ra0 ra1 ra2 ra3 ra4
  go_wp2_with fail
  clear ra0 ra1 ra2 ra3 ra4
  with_reducible refine (C1.out w7 _ _ (Below.refl _ _) rfl HB.out HV4.out.pv HD4.out).mono ?_
  rintro e wa ⟨p5, vr5, rfl, hI, hd, hn, hA, hb⟩
  obtain ⟨k5, S5, ql5, nl5, cl5, qh5, nh5, ch5, qz5, nz5, cz5, d5⟩ := p5
  dsimp only [PV.agg]
  obtain ⟨qr5, cr5, rfl, hv5⟩ := ans_text hA NN HNN.out XN HXN.out
  have hbn := hb.trans ((Kit.below1 wa (.cells #[.int .u8 k5, .string S5, .slice ql5 nl5 cl5, .slice qh5 nh5 ch5, .slice qz5 nz5 cz5] 26)).mono hb.size)
  have HV8 := Lib.hid (HV8.out.keep hbn)
  have HV2 := Lib.hid (HV2.out.keep hbn)
  have HV4 := Lib.hid (HV4.out.keep hbn)
  have HC2 := Lib.hid (fun W hW => HC2.out W (hbn.trans (Below.mono hW hbn.size)))
  have HC3 := Lib.hid (fun W hW => HC3.out W (hbn.trans (Below.mono hW hbn.size)))
  have HC4 := Lib.hid (fun W hW => HC4.out W (hbn.trans (Below.mono hW hbn.size)))
  have HB := Lib.hid (HB.out.trans (hbn.mono HB.out.size))
  have HV5 := Lib.hid (show VB _ wa.heap.size ⟨k5, S5, ql5, nl5, cl5, qh5, nh5, ch5, qz5, nz5, cz5, d5⟩ from VB.new hI)
  have HD5 := Lib.hid (show PV.d ⟨k5, S5, ql5, nl5, cl5, qh5, nh5, ch5, qz5, nz5, cz5, d5⟩ = _ from hd)
  have hbx := Kit.below1 wa (.cells #[.int .u8 k5, .string S5, .slice ql5 nl5 cl5, .slice qh5 nh5 ch5, .slice qz5 nz5 cz5] 26)
  have HC5 := Lib.hid (fun W hW => hv5 W (hbx.trans (Below.mono hW hbx.size)))
  clear hbx
  have HL5 := Lib.hid (show w7.heap.size ≤ wa.heap.size from Below.size hb)
  clear hI hd hn hA hb hbn hv5
  go_upto_region 11 with fail
  generalize hgg : wa.heap.size = g5 at HV5 HL5 ⊢
  clear hgg
  generalize wa.alloc (.cells #[.int .u8 k5, .string S5, .slice ql5 nl5 cl5, .slice qh5 nh5 ch5, .slice qz5 nz5 cz5] 26) = w8 at HV5 HV8 HV2 HV4 HC2 HC3 HC4 HB HC5 ⊢
  clear C1 HL5
  have C1 := Lib.hid (fun (W Y : World) (g : Nat) (hY : Below (W.alloc (.cells #[.string ⟨#[104, 108, 101, 110]⟩, .string ⟨#[107]⟩] 9)).heap.size (W.alloc (.cells #[.string ⟨#[104, 108, 101, 110]⟩, .string ⟨#[107]⟩] 9)) Y) (hgw : g = W.heap.size) (hW : Below w.heap.size w W) (hpv : PV.In W ⟨k4, S4, ql4, nl4, cl4, qh4, nh4, ch4, qz4, nz4, cz4, d4⟩) (hdv : PV.d ⟨k4, S4, ql4, nl4, cl4, qh4, nh4, ch4, qz4, nz4, cz4, d4⟩ = hashV (G)) => (show Calls Tryd.prog 11 #[.agg #[.int .u8 k4, .string S4, .slice ql4 nl4 cl4, .slice qh4 nh4 ch4, .slice qz4 nz4 cz4], .slice (some ⟨g, 0, none⟩) 2 2] Y (DoN (hashV (G)) (int (G.length : Int)) W) from by subst hgw; exact don_to (rfl) (on2 3 (by decide) ⟨#[104, 108, 101, 110]⟩ ⟨#[107]⟩ (by decide) (by decide) (by decide) ⟨k4, S4, ql4, nl4, cl4, qh4, nh4, ch4, qz4, nz4, cz4, d4⟩ (G) W Y hY hpv hdv (HG.out W hW) (tame3 HUg.out))))
  obtain ⟨-, -, ra0, ra1, ra2, ra3, ra4⟩ := HV4.out.room
  dsimp only at ra0 ra1 ra2 ra3 ra4
  go_wp2_with fail
  clear ra0 ra1 ra2 ra3 ra4
  with_reducible refine (C1.out w8 _ _ (Below.refl _ _) rfl HB.out HV4.out.pv HD4.out).mono ?_
  rintro e wa ⟨p6, vr6, rfl, hI, hd, hn, hA, hb⟩
  obtain ⟨k6, S6, ql6, nl6, cl6, qh6, nh6, ch6, qz6, nz6, cz6, d6⟩ := p6
  dsimp only [PV.agg]
  obtain ⟨qr6, cr6, rfl, hv6⟩ := ans_text hA NI HNI.out XI HXI.out
  have hbn := hb.trans ((Kit.below1 wa (.cells #[.int .u8 k6, .string S6, .slice ql6 nl6 cl6, .slice qh6 nh6 ch6, .slice qz6 nz6 cz6] 26)).mono hb.size)
  have HV8 := Lib.hid (HV8.out.keep hbn)
  have HV2 := Lib.hid (HV2.out.keep hbn)
  have HV4 := Lib.hid (HV4.out.keep hbn)
  have HC2 := Lib.hid (fun W hW => HC2.out W (hbn.trans (Below.mono hW hbn.size)))
  have HC3 := Lib.hid (fun W hW => HC3.out W (hbn.trans (Below.mono hW hbn.size)))
  have HC4 := Lib.hid (fun W hW => HC4.out W (hbn.trans (Below.mono hW hbn.size)))
  have HC5 := Lib.hid (fun W hW => HC5.out W (hbn.trans (Below.mono hW hbn.size)))
  have HB := Lib.hid (HB.out.trans (hbn.mono HB.out.size))
  have HV6 := Lib.hid (show VB _ wa.heap.size ⟨k6, S6, ql6, nl6, cl6, qh6, nh6, ch6, qz6, nz6, cz6, d6⟩ from VB.new hI)
  have HD6 := Lib.hid (show PV.d ⟨k6, S6, ql6, nl6, cl6, qh6, nh6, ch6, qz6, nz6, cz6, d6⟩ = _ from hd)
  have hbx := Kit.below1 wa (.cells #[.int .u8 k6, .string S6, .slice ql6 nl6 cl6, .slice qh6 nh6 ch6, .slice qz6 nz6 cz6] 26)
  have HC6 := Lib.hid (fun W hW => hv6 W (hbx.trans (Below.mono hW hbx.size)))
  clear hbx
  have HL6 := Lib.hid (show w8.heap.size ≤ wa.heap.size from Below.size hb)
  clear hI hd hn hA hb hbn hv6
  go_upto_region 12 with fail
  generalize hgg : wa.heap.size = g6 at HV6 HL6 ⊢
  clear hgg
  generalize wa.alloc (.cells #[.int .u8 k6, .string S6, .slice ql6 nl6 cl6, .slice qh6 nh6 ch6, .slice qz6 nz6 cz6] 26) = w9 at HV6 HV8 HV2 HV4 HC2 HC3 HC4 HC5 HB HC6 ⊢
  clear C1 HL6
  have hc2 := HC2.out
  have hc3 := HC3.out
  have hc4 := HC4.out
  have hc5 := HC5.out
  have hc6 := HC6.out
  obtain ⟨e2, -, -⟩ := pv_prs HV2.out.pv HD2.out
  obtain ⟨e4, -, -⟩ := pv_prs HV4.out.pv HD4.out
  obtain ⟨e8, -, HP8⟩ := pv_prs HV8.out.pv HD8.out
  dsimp only at e2 e4 e8 HP8
  have HE2 := Lib.hid (show nh2 = nh4 + 1 by rw [e2, e4]; exact HGl.out)
  have HPs := Lib.hid HP8
  have HE8 := Lib.hid e8
  have HE4 := Lib.hid e4
  have l2 : ∀ W, Below w9.heap.size w9 W → W.cell? ⟨g2, 3, none⟩ = some (.slice qh2 nh2 ch2) := fun W hW => (HV2.out.keep hW).room.c3
  have l4 : ∀ W, Below w9.heap.size w9 W → W.cell? ⟨g4, 3, none⟩ = some (.slice qh4 nh4 ch4) := fun W hW => (HV4.out.keep hW).room.c3
  clear e2 e4 e8 HP8 HC2 HC3 HC4 HC5 HC6
  obtain ⟨NB2, HNB2⟩ : ∃ NR, Hid ((bulk Sb.data.toList).length = NR) := ⟨_, Lib.hid rfl⟩
  go_cut [138] (fun v wx => v = .bool false ∧ Hid (Below w9.heap.size w9 wx))
  case first =>
    obtain rfl : nh2 = nh4 + 1 := HE2.out
    have hn9 : nh4 ≤ 9 := by rw [HE4.out]; exact HGb.out
    have hw1 : -4096 ≤ (nh4 : Int) + 1 ∧ (nh4 : Int) + 1 ≤ 4096 := by omega
    have A1 := Lib.hid (fun W (h : Below w9.heap.size w9 W) => (show Calls Tryd.prog 12 #[.string Sb] W (Said w9 W NB XB) from (rbulk Sb W (by omega)).mono (fun e w' hh => said_of hh h NB HNB.out XB HXB.out)))
    have A2 := Lib.hid (fun W (h : Below w9.heap.size w9 W) => (show Calls Tryd.prog 13 #[] W (Said w9 W NN XN) from (rnull W).mono (fun e w' hh => said_of hh h NN HNN.out XN HXN.out)))
    have A3 := Lib.hid (fun W (h : Below w9.heap.size w9 W) => (show Calls Tryd.prog 14 #[.int .i64 (nh4 : Int)] W (Said w9 W NI XI) from by rw [HE4.out]; exact (rint (G.length : Int) W (by omega) (by have := HGb.out; omega)).mono (fun e w' hh => said_of hh h NI HNI.out XI HXI.out)))
    obtain ⟨wa, wb⟩ := num_in (z := (nh4 : Int) + 1) hw1
    clear hw1 hn9
    refine wp_region_held_drew (S := fun W => Below w9.heap.size w9 W ∧ Below w9.heap.size w9 W) (by kernel_rfl) ?_ (fun hHeld => ?_)
    · exact ⟨(Below.refl _ _).drew, (Below.refl _ _).drew⟩
    refine wpAnyH_take (i := 0) (v := ?_) rfl (by kernel_rfl) (by kernel_rfl) (by kernel_rfl) (fun _ _ _ h => h) (Or.inl ⟨by rfl, ?_⟩) (by assumption) ?_
    rotate_left
    · intro W0 hSw; obtain ⟨hSa, hSb⟩ := hSw; go_simp; all_goals (with_reducible rfl)
    try simp only [Act.put, List.getElem_toArray, List.getElem_cons_zero, List.setIfInBounds_toArray, List.set_cons_zero, List.set_cons_succ]
    refine wpAnyH_take (i := 1) (v := ?_) rfl (by kernel_rfl) (by kernel_rfl) (by kernel_rfl) (fun _ _ _ h => h) (Or.inl ⟨by rfl, ?_⟩) (by assumption) ?_
    rotate_left
    · intro W0 hSw; obtain ⟨hSa, hSb⟩ := hSw; go_simp; all_goals (with_reducible rfl)
    try simp only [Act.put, List.getElem_toArray, List.getElem_cons_succ, List.getElem_cons_zero, List.setIfInBounds_toArray, List.set_cons_zero, List.set_cons_succ]
    refine wpAnyH_take (i := 2) (v := ?_) rfl (by kernel_rfl) (by kernel_rfl) (by kernel_rfl) (fun _ _ _ h => h) (Or.inl ⟨by rfl, ?_⟩) (by assumption) ?_
    rotate_left
    · intro W0 hSw; obtain ⟨hSa, hSb⟩ := hSw; go_simp; all_goals (with_reducible rfl)
    try simp only [Act.put, List.getElem_toArray, List.getElem_cons_succ, List.getElem_cons_zero, List.setIfInBounds_toArray, List.set_cons_zero, List.set_cons_succ]
    refine wpAnyH_take (i := 3) (v := ?_) rfl (by kernel_rfl) (by kernel_rfl) (by kernel_rfl) (fun _ _ _ h => h) (Or.inl ⟨by rfl, ?_⟩) (by assumption) ?_
    rotate_left
    · intro W0 hSw; obtain ⟨hSa, hSb⟩ := hSw; go_simp; all_goals (with_reducible rfl)
    try simp only [Act.put, List.getElem_toArray, List.getElem_cons_succ, List.getElem_cons_zero, List.setIfInBounds_toArray, List.set_cons_zero, List.set_cons_succ]
    refine wpAnyH_take (i := 4) (v := ?_) rfl (by kernel_rfl) (by kernel_rfl) (by kernel_rfl) (fun _ _ _ h => h) (Or.inl ⟨by rfl, ?_⟩) (by assumption) ?_
    rotate_left
    · intro W0 hSw; obtain ⟨hSa, hSb⟩ := hSw; go_simp; all_goals (with_reducible rfl)
    try simp only [Act.put, List.getElem_toArray, List.getElem_cons_succ, List.getElem_cons_zero, List.setIfInBounds_toArray, List.set_cons_zero, List.set_cons_succ]
    refine wpAnyH_take (i := 5) (v := ?_) rfl (by kernel_rfl) (by kernel_rfl) (by kernel_rfl) (fun _ _ _ h => h) (Or.inl ⟨by rfl, ?_⟩) (by assumption) ?_
    rotate_left
    · intro W0 hSw; obtain ⟨hSa, hSb⟩ := hSw; go_simp; all_goals (with_reducible rfl)
    try simp only [Act.put, List.getElem_toArray, List.getElem_cons_succ, List.getElem_cons_zero, List.setIfInBounds_toArray, List.set_cons_zero, List.set_cons_succ]
    refine wpAnyH_take (i := 6) (v := ?_) rfl (by kernel_rfl) (by kernel_rfl) (by kernel_rfl) (fun _ _ _ h => h) (Or.inl ⟨by rfl, ?_⟩) (by assumption) ?_
    rotate_left
    · intro W0 hSw; obtain ⟨hSa, hSb⟩ := hSw; go_simp; all_goals (with_reducible rfl)
    try simp only [Act.put, List.getElem_toArray, List.getElem_cons_succ, List.getElem_cons_zero, List.setIfInBounds_toArray, List.set_cons_zero, List.set_cons_succ]
    refine wpAnyH_ready (rs := [7]) (by kernel_rfl) (by simp) ?_
    refine AllReadyH.cons rfl (fun K hK => ?_) AllReadyH.nil
    go_simp
    go_wp2_with (go_at_call 12; (refine (A1.out _ hHeld.1).mono ?_); rintro e wA0 ⟨pwA0, cwA0, rfl, vwA0, bwA0, ywA0, zwA0⟩)
    have hC := hHeld.2.trans (ywA0.mono hHeld.2.size)
    refine hK.out _ _ ?_ (fun hHeld2 => ?_)
    · exact ⟨bwA0, hC⟩
    clear hK K hHeld hHeld2
    have hHeld : Below w9.heap.size w9 wA0 ∧ Below wA0.heap.size wA0 wA0 := ⟨bwA0, zwA0⟩
    refine held_mono (S' := fun W => Below w9.heap.size w9 W ∧ Below wA0.heap.size wA0 W) (fun W hW => ⟨hW.1, hC.trans (hW.2.mono hC.size)⟩) _ _ _ _ ?_
    clear hC
    refine wpAnyH_take (i := 8) (v := ?_) rfl (by kernel_rfl) (by kernel_rfl) (by kernel_rfl) (fun _ _ _ h => h) (Or.inl ⟨by rfl, ?_⟩) (by assumption) ?_
    rotate_left
    · intro W0 hSw; obtain ⟨hSa, hSb⟩ := hSw; go_simp; all_goals (with_reducible rfl)
    try simp only [Act.put, List.getElem_toArray, List.getElem_cons_succ, List.getElem_cons_zero, List.setIfInBounds_toArray, List.set_cons_zero, List.set_cons_succ]
    refine wpAnyH_take (i := 9) (v := ?_) rfl (by kernel_rfl) (by kernel_rfl) (by kernel_rfl) (fun _ _ _ h => h) (Or.inl ⟨by rfl, ?_⟩) (by assumption) ?_
    rotate_left
    · intro W0 hSw; obtain ⟨hSa, hSb⟩ := hSw; go_simp; all_goals (with_reducible rfl)
    try simp only [Act.put, List.getElem_toArray, List.getElem_cons_succ, List.getElem_cons_zero, List.setIfInBounds_toArray, List.set_cons_zero, List.set_cons_succ]
    refine wpAnyH_take (i := 10) (v := ?_) rfl (by kernel_rfl) (by kernel_rfl) (by kernel_rfl) (fun _ _ _ h => h) (Or.inl ⟨by rfl, ?_⟩) (by assumption) ?_
    rotate_left
    · intro W0 hSw; obtain ⟨hSa, hSb⟩ := hSw; go_simp; all_goals (with_reducible rfl)
    try simp only [Act.put, List.getElem_toArray, List.getElem_cons_succ, List.getElem_cons_zero, List.setIfInBounds_toArray, List.set_cons_zero, List.set_cons_succ]
    refine wpAnyH_take (i := 11) (v := ?_) rfl (by kernel_rfl) (by kernel_rfl) (by kernel_rfl) (fun _ _ _ h => h) (Or.inl ⟨by rfl, ?_⟩) (by assumption) ?_
    rotate_left
    · intro W0 hSw; obtain ⟨hSa, hSb⟩ := hSw; go_simp; all_goals (with_reducible rfl)
    try simp only [Act.put, List.getElem_toArray, List.getElem_cons_succ, List.getElem_cons_zero, List.setIfInBounds_toArray, List.set_cons_zero, List.set_cons_succ]
    refine wpAnyH_take (i := 12) (v := ?_) rfl (by kernel_rfl) (by kernel_rfl) (by kernel_rfl) (fun _ _ _ h => h) (Or.inl ⟨by rfl, ?_⟩) (by assumption) ?_
    rotate_left
    · intro W0 hSw; obtain ⟨hSa, hSb⟩ := hSw; go_simp; all_goals (with_reducible rfl)
    try simp only [Act.put, List.getElem_toArray, List.getElem_cons_succ, List.getElem_cons_zero, List.setIfInBounds_toArray, List.set_cons_zero, List.set_cons_succ]
    refine wpAnyH_take (i := 13) (v := ?_) rfl (by kernel_rfl) (by kernel_rfl) (by kernel_rfl) (fun _ _ _ h => h) (Or.inl ⟨by rfl, ?_⟩) (by assumption) ?_
    rotate_left
    · intro W0 hSw; obtain ⟨hSa, hSb⟩ := hSw; go_simp; all_goals (with_reducible rfl)
    try simp only [Act.put, List.getElem_toArray, List.getElem_cons_succ, List.getElem_cons_zero, List.setIfInBounds_toArray, List.set_cons_zero, List.set_cons_succ]
    refine wpAnyH_take (i := 14) (v := ?_) rfl (by kernel_rfl) (by kernel_rfl) (by kernel_rfl) (fun _ _ _ h => h) (Or.inl ⟨by rfl, ?_⟩) (by assumption) ?_
    rotate_left
    · intro W0 hSw; obtain ⟨hSa, hSb⟩ := hSw; go_simp; all_goals (with_reducible rfl)
    try simp only [Act.put, List.getElem_toArray, List.getElem_cons_succ, List.getElem_cons_zero, List.setIfInBounds_toArray, List.set_cons_zero, List.set_cons_succ]
    refine wpAnyH_take (i := 15) (v := ?_) rfl (by kernel_rfl) (by kernel_rfl) (by kernel_rfl) (fun _ _ _ h => h) (Or.inl ⟨by rfl, ?_⟩) (by assumption) ?_
    rotate_left
    · intro W0 hSw; obtain ⟨hSa, hSb⟩ := hSw; go_simp; all_goals (with_reducible rfl)
    try simp only [Act.put, List.getElem_toArray, List.getElem_cons_succ, List.getElem_cons_zero, List.setIfInBounds_toArray, List.set_cons_zero, List.set_cons_succ]
    refine wpAnyH_take (i := 16) (v := ?_) rfl (by kernel_rfl) (by kernel_rfl) (by kernel_rfl) (fun _ _ _ h => h) (Or.inl ⟨by rfl, ?_⟩) (by assumption) ?_
    rotate_left
    · intro W0 hSw; obtain ⟨hSa, hSb⟩ := hSw; go_simp; all_goals (with_reducible rfl)
    try simp only [Act.put, List.getElem_toArray, List.getElem_cons_succ, List.getElem_cons_zero, List.setIfInBounds_toArray, List.set_cons_zero, List.set_cons_succ]
    refine wpAnyH_take (i := 17) (v := ?_) rfl (by kernel_rfl) (by kernel_rfl) (by kernel_rfl) (fun _ _ _ h => h) (Or.inl ⟨by rfl, ?_⟩) (by assumption) ?_
    rotate_left
    · intro W0 hSw; obtain ⟨hSa, hSb⟩ := hSw; go_simp; all_goals (with_reducible rfl)
    try simp only [Act.put, List.getElem_toArray, List.getElem_cons_succ, List.getElem_cons_zero, List.setIfInBounds_toArray, List.set_cons_zero, List.set_cons_succ]
    refine wpAnyH_take (i := 18) (v := ?_) rfl (by kernel_rfl) (by kernel_rfl) (by kernel_rfl) (fun _ _ _ h => h) (Or.inl ⟨by rfl, ?_⟩) (by assumption) ?_
    rotate_left
    · intro W0 hSw; obtain ⟨hSa, hSb⟩ := hSw; go_simp; all_goals (with_reducible rfl)
    try simp only [Act.put, List.getElem_toArray, List.getElem_cons_succ, List.getElem_cons_zero, List.setIfInBounds_toArray, List.set_cons_zero, List.set_cons_succ]
    refine wpAnyH_ready (rs := [19]) (by kernel_rfl) (by simp) ?_
    refine AllReadyH.cons rfl (fun K hK => ?_) AllReadyH.nil
    go_simp
    go_wp2_with (go_at_call 13; (refine (A2.out _ hHeld.1).mono ?_); rintro e wA1 ⟨pwA1, cwA1, rfl, vwA1, bwA1, ywA1, zwA1⟩)
    have hC := hHeld.2.trans (ywA1.mono hHeld.2.size)
    refine hK.out _ _ ?_ (fun hHeld2 => ?_)
    · exact ⟨bwA1, hC⟩
    clear hK K hHeld hHeld2
    have hHeld : Below w9.heap.size w9 wA1 ∧ Below wA1.heap.size wA1 wA1 := ⟨bwA1, zwA1⟩
    refine held_mono (S' := fun W => Below w9.heap.size w9 W ∧ Below wA1.heap.size wA1 W) (fun W hW => ⟨hW.1, hC.trans (hW.2.mono hC.size)⟩) _ _ _ _ ?_
    clear hC
    refine wpAnyH_take (i := 20) (v := ?_) rfl (by kernel_rfl) (by kernel_rfl) (by kernel_rfl) (fun _ _ _ h => h) (Or.inl ⟨by rfl, ?_⟩) (by assumption) ?_
    rotate_left
    · intro W0 hSw; obtain ⟨hSa, hSb⟩ := hSw; go_simp; all_goals (with_reducible rfl)
    try simp only [Act.put, List.getElem_toArray, List.getElem_cons_succ, List.getElem_cons_zero, List.setIfInBounds_toArray, List.set_cons_zero, List.set_cons_succ]
    refine wpAnyH_take (i := 21) (v := ?_) rfl (by kernel_rfl) (by kernel_rfl) (by kernel_rfl) (fun _ _ _ h => h) (Or.inl ⟨by rfl, ?_⟩) (by assumption) ?_
    rotate_left
    · intro W0 hSw; obtain ⟨hSa, hSb⟩ := hSw; go_simp; all_goals (with_reducible rfl)
    try simp only [Act.put, List.getElem_toArray, List.getElem_cons_succ, List.getElem_cons_zero, List.setIfInBounds_toArray, List.set_cons_zero, List.set_cons_succ]
    refine wpAnyH_take (i := 22) (v := ?_) rfl (by kernel_rfl) (by kernel_rfl) (by kernel_rfl) (fun _ _ _ h => h) (Or.inl ⟨by rfl, ?_⟩) (by assumption) ?_
    rotate_left
    · intro W0 hSw; obtain ⟨hSa, hSb⟩ := hSw; go_simp; all_goals (with_reducible rfl)
    try simp only [Act.put, List.getElem_toArray, List.getElem_cons_succ, List.getElem_cons_zero, List.setIfInBounds_toArray, List.set_cons_zero, List.set_cons_succ]
    refine wpAnyH_take (i := 23) (v := ?_) rfl (by kernel_rfl) (by kernel_rfl) (by kernel_rfl) (fun _ _ _ h => h) (Or.inl ⟨by rfl, ?_⟩) (by assumption) ?_
    rotate_left
    · intro W0 hSw; obtain ⟨hSa, hSb⟩ := hSw; go_simp; all_goals (with_reducible rfl)
    try simp only [Act.put, List.getElem_toArray, List.getElem_cons_succ, List.getElem_cons_zero, List.setIfInBounds_toArray, List.set_cons_zero, List.set_cons_succ]
    refine wpAnyH_take (i := 24) (v := ?_) rfl (by kernel_rfl) (by kernel_rfl) (by kernel_rfl) (fun _ _ _ h => h) (Or.inl ⟨by rfl, ?_⟩) (by assumption) ?_
    rotate_left
    · intro W0 hSw; obtain ⟨hSa, hSb⟩ := hSw; go_simp; all_goals (with_reducible rfl)
    try simp only [Act.put, List.getElem_toArray, List.getElem_cons_succ, List.getElem_cons_zero, List.setIfInBounds_toArray, List.set_cons_zero, List.set_cons_succ]
    refine wpAnyH_take (i := 25) (v := ?_) rfl (by kernel_rfl) (by kernel_rfl) (by kernel_rfl) (fun _ _ _ h => h) (Or.inl ⟨by rfl, ?_⟩) (by assumption) ?_
    rotate_left
    · intro W0 hSw; obtain ⟨hSa, hSb⟩ := hSw; go_simp; all_goals (with_reducible rfl)
    try simp only [Act.put, List.getElem_toArray, List.getElem_cons_succ, List.getElem_cons_zero, List.setIfInBounds_toArray, List.set_cons_zero, List.set_cons_succ]
    refine wpAnyH_take (i := 26) (v := ?_) rfl (by kernel_rfl) (by kernel_rfl) (by kernel_rfl) (fun _ _ _ h => h) (Or.inl ⟨by rfl, ?_⟩) (by assumption) ?_
    rotate_left
    · intro W0 hSw; obtain ⟨hSa, hSb⟩ := hSw; go_simp; all_goals (with_reducible rfl)
    try simp only [Act.put, List.getElem_toArray, List.getElem_cons_succ, List.getElem_cons_zero, List.setIfInBounds_toArray, List.set_cons_zero, List.set_cons_succ]
    refine wpAnyH_take (i := 27) (v := ?_) rfl (by kernel_rfl) (by kernel_rfl) (by kernel_rfl) (fun _ _ _ h => h) (Or.inl ⟨by rfl, ?_⟩) (by assumption) ?_
    rotate_left
    · intro W0 hSw; obtain ⟨hSa, hSb⟩ := hSw; go_simp; all_goals (with_reducible rfl)
    try simp only [Act.put, List.getElem_toArray, List.getElem_cons_succ, List.getElem_cons_zero, List.setIfInBounds_toArray, List.set_cons_zero, List.set_cons_succ]
    refine wpAnyH_take (i := 28) (v := ?_) rfl (by kernel_rfl) (by kernel_rfl) (by kernel_rfl) (fun _ _ _ h => h) (Or.inl ⟨by rfl, ?_⟩) (by assumption) ?_
    rotate_left
    · intro W0 hSw; obtain ⟨hSa, hSb⟩ := hSw; go_simp; all_goals (with_reducible rfl)
    try simp only [Act.put, List.getElem_toArray, List.getElem_cons_succ, List.getElem_cons_zero, List.setIfInBounds_toArray, List.set_cons_zero, List.set_cons_succ]
    refine wpAnyH_take (i := 29) (v := ?_) rfl (by kernel_rfl) (by kernel_rfl) (by kernel_rfl) (fun _ _ _ h => h) (Or.inl ⟨by rfl, ?_⟩) (by assumption) ?_
    rotate_left
    · intro W0 hSw; obtain ⟨hSa, hSb⟩ := hSw; go_simp; all_goals (with_reducible rfl)
    try simp only [Act.put, List.getElem_toArray, List.getElem_cons_succ, List.getElem_cons_zero, List.setIfInBounds_toArray, List.set_cons_zero, List.set_cons_succ]
    refine wpAnyH_take (i := 30) (v := ?_) rfl (by kernel_rfl) (by kernel_rfl) (by kernel_rfl) (fun _ _ _ h => h) (Or.inl ⟨by rfl, ?_⟩) (by assumption) ?_
    rotate_left
    · intro W0 hSw; obtain ⟨hSa, hSb⟩ := hSw; go_simp; all_goals (with_reducible rfl)
    try simp only [Act.put, List.getElem_toArray, List.getElem_cons_succ, List.getElem_cons_zero, List.setIfInBounds_toArray, List.set_cons_zero, List.set_cons_succ]
    refine wpAnyH_take (i := 31) (v := ?_) rfl (by kernel_rfl) (by kernel_rfl) (by kernel_rfl) (fun _ _ _ h => h) (Or.inl ⟨by rfl, ?_⟩) (by assumption) ?_
    rotate_left
    · intro W0 hSw; obtain ⟨hSa, hSb⟩ := hSw; go_simp; all_goals (with_reducible rfl)
    try simp only [Act.put, List.getElem_toArray, List.getElem_cons_succ, List.getElem_cons_zero, List.setIfInBounds_toArray, List.set_cons_zero, List.set_cons_succ]
    refine wpAnyH_take (i := 32) (v := ?_) rfl (by kernel_rfl) (by kernel_rfl) (by kernel_rfl) (fun _ _ _ h => h) (Or.inl ⟨by rfl, ?_⟩) (by assumption) ?_
    rotate_left
    · intro W0 hSw; obtain ⟨hSa, hSb⟩ := hSw; go_simp; all_goals (with_reducible rfl)
    try simp only [Act.put, List.getElem_toArray, List.getElem_cons_succ, List.getElem_cons_zero, List.setIfInBounds_toArray, List.set_cons_zero, List.set_cons_succ]
    refine wpAnyH_take (i := 33) (v := ?_) rfl (by kernel_rfl) (by kernel_rfl) (by kernel_rfl) (fun _ _ _ h => h) (Or.inl ⟨by rfl, ?_⟩) (by assumption) ?_
    rotate_left
    · intro W0 hSw; obtain ⟨hSa, hSb⟩ := hSw; go_simp; all_goals (with_reducible rfl)
    try simp only [Act.put, List.getElem_toArray, List.getElem_cons_succ, List.getElem_cons_zero, List.setIfInBounds_toArray, List.set_cons_zero, List.set_cons_succ]
    refine wpAnyH_take (i := 34) (v := ?_) rfl (by kernel_rfl) (by kernel_rfl) (by kernel_rfl) (fun _ _ _ h => h) (Or.inl ⟨by rfl, ?_⟩) (by assumption) ?_
    rotate_left
    · intro W0 hSw; obtain ⟨hSa, hSb⟩ := hSw; go_simp; all_goals (with_reducible rfl)
    try simp only [Act.put, List.getElem_toArray, List.getElem_cons_succ, List.getElem_cons_zero, List.setIfInBounds_toArray, List.set_cons_zero, List.set_cons_succ]
    refine wpAnyH_take (i := 35) (v := ?_) rfl (by kernel_rfl) (by kernel_rfl) (by kernel_rfl) (fun _ _ _ h => h) (Or.inl ⟨by rfl, ?_⟩) (by assumption) ?_
    rotate_left
    · intro W0 hSw; obtain ⟨hSa, hSb⟩ := hSw; go_simp; all_goals (with_reducible rfl)
    try simp only [Act.put, List.getElem_toArray, List.getElem_cons_succ, List.getElem_cons_zero, List.setIfInBounds_toArray, List.set_cons_zero, List.set_cons_succ]
    refine wpAnyH_take (i := 36) (v := ?_) rfl (by kernel_rfl) (by kernel_rfl) (by kernel_rfl) (fun _ _ _ h => h) (Or.inl ⟨by rfl, ?_⟩) (by assumption) ?_
    rotate_left
    · intro W0 hSw; obtain ⟨hSa, hSb⟩ := hSw; go_simp; all_goals (with_reducible rfl)
    try simp only [Act.put, List.getElem_toArray, List.getElem_cons_succ, List.getElem_cons_zero, List.setIfInBounds_toArray, List.set_cons_zero, List.set_cons_succ]
    refine wpAnyH_take (i := 37) (v := ?_) rfl (by kernel_rfl) (by kernel_rfl) (by kernel_rfl) (fun _ _ _ h => h) (Or.inl ⟨by rfl, ?_⟩) (by assumption) ?_
    rotate_left
    · intro W0 hSw; obtain ⟨hSa, hSb⟩ := hSw; go_simp; all_goals (with_reducible rfl)
    try simp only [Act.put, List.getElem_toArray, List.getElem_cons_succ, List.getElem_cons_zero, List.setIfInBounds_toArray, List.set_cons_zero, List.set_cons_succ]
    refine wpAnyH_take (i := 38) (v := ?_) rfl (by kernel_rfl) (by kernel_rfl) (by kernel_rfl) (fun _ _ _ h => h) (Or.inl ⟨by rfl, ?_⟩) (by assumption) ?_
    rotate_left
    · intro W0 hSw; obtain ⟨hSa, hSb⟩ := hSw; go_simp; all_goals (with_reducible rfl)
    try simp only [Act.put, List.getElem_toArray, List.getElem_cons_succ, List.getElem_cons_zero, List.setIfInBounds_toArray, List.set_cons_zero, List.set_cons_succ]
    refine wpAnyH_ready (rs := [39]) (by kernel_rfl) (by simp) ?_
    refine AllReadyH.cons rfl (fun K hK => ?_) AllReadyH.nil
    go_simp
    go_wp2_with (go_at_call 14; (refine (A3.out _ hHeld.1).mono ?_); rintro e wA2 ⟨pwA2, cwA2, rfl, vwA2, bwA2, ywA2, zwA2⟩)
    have hC := hHeld.2.trans (ywA2.mono hHeld.2.size)
    refine hK.out _ _ ?_ (fun hHeld2 => ?_)
    · exact ⟨bwA2, hC⟩
    clear hK K hHeld hHeld2
    have hHeld : Below w9.heap.size w9 wA2 ∧ Below wA2.heap.size wA2 wA2 := ⟨bwA2, zwA2⟩
    refine held_mono (S' := fun W => Below w9.heap.size w9 W ∧ Below wA2.heap.size wA2 W) (fun W hW => ⟨hW.1, hC.trans (hW.2.mono hC.size)⟩) _ _ _ _ ?_
    clear hC
    refine wpAnyH_take (i := 40) (v := ?_) rfl (by kernel_rfl) (by kernel_rfl) (by kernel_rfl) (fun _ _ _ h => h) (Or.inl ⟨by rfl, ?_⟩) (by assumption) ?_
    rotate_left
    · intro W0 hSw; obtain ⟨hSa, hSb⟩ := hSw; go_simp; all_goals (with_reducible rfl)
    try simp only [Act.put, List.getElem_toArray, List.getElem_cons_succ, List.getElem_cons_zero, List.setIfInBounds_toArray, List.set_cons_zero, List.set_cons_succ]
    refine wpAnyH_take (i := 41) (v := ?_) rfl (by kernel_rfl) (by kernel_rfl) (by kernel_rfl) (fun _ _ _ h => h) (Or.inl ⟨by rfl, ?_⟩) (by assumption) ?_
    rotate_left
    · intro W0 hSw; obtain ⟨hSa, hSb⟩ := hSw; go_simp; all_goals (with_reducible rfl)
    try simp only [Act.put, List.getElem_toArray, List.getElem_cons_succ, List.getElem_cons_zero, List.setIfInBounds_toArray, List.set_cons_zero, List.set_cons_succ]
    refine wpAnyH_take (i := 42) (v := ?_) rfl (by kernel_rfl) (by kernel_rfl) (by kernel_rfl) (fun _ _ _ h => h) (Or.inl ⟨by rfl, ?_⟩) (by assumption) ?_
    rotate_left
    · intro W0 hSw; obtain ⟨hSa, hSb⟩ := hSw; go_simp; all_goals (with_reducible rfl)
    try simp only [Act.put, List.getElem_toArray, List.getElem_cons_succ, List.getElem_cons_zero, List.setIfInBounds_toArray, List.set_cons_zero, List.set_cons_succ]
    refine wpAnyH_done (by kernel_rfl) ?_ _
    go_wp2_with fail
    go_meet
    exact ⟨rfl, Lib.hid hHeld.1⟩
  case rest =>
  obtain ⟨rfl, hbn⟩ := hcut
  rename World => w10
  have HV8 := Lib.hid (HV8.out.keep hbn.out)
  have HV2 := Lib.hid (HV2.out.keep hbn.out)
  have HV4 := Lib.hid (HV4.out.keep hbn.out)
  have HPs := Lib.hid (HPs.out.keep hbn.out)
  have HB := Lib.hid (HB.out.trans (hbn.out.mono HB.out.size))
  clear hbn l2 l4 hc2 hc3 hc4 hc5 hc6 HNB HXB HNN HXN HNI HXI HNB2 slKn slSa slSb hminmk hminma hminmb hnz hz0 hz1 hcap hKnz hSaz hSbz HUa HLa HSb HE2 HE4 HGl HGb HH HV1 HV3 HV5 HV6 HD1 HD3 HD5 HD6
  go_wp2_with fail
  rename_i K0 hK0
  refine loop_any w w10 H G Kn Sb g8 g2 g4 k8 S8 ql8 nl8 cl8 qh8 nh8 ch8 qz8 nz8 cz8 d8 k2 S2 ql2 nl2 cl2 qh2 nh2 ch2 qz2 nz2 cz2 d2 k4 S4 ql4 nl4 cl4 qh4 nh4 ch4 qz4 nz4 cz4 d4 HG.out HB.out HV8.out HV2.out HV4.out HD2.out HD4.out HPs.out HE8.out H8.out HU.out HUb.out HUg.out HVv.out HVb.out HVg.out HGe.out _ ?_
  intro v6 v24 v25 v26 v27 v28 v139 v140 v141 v142 v143 v144 v145 v146 v147 v148 v149 v150 v151 v152 v153 v154 v155 v156 v157 v158 v159 v160 v161 v162 v163 v164 v165 v166 v167 v168 v169 v170 v171 v172 v173 v174 v175 v176 v177 v178 v179 v180 v181 v182 v183 v184 v185 v186 v187 v188 v189 v190 v191 v192 v193 v194 v195 w11 hb11
  refine hK0 _ _ ?_
  go_wp2_with fail
  go_ret
  exact ⟨rfl, hb11⟩

end Go.Proofs.YtjikppjlkicgpaaDoor.hashesBack
