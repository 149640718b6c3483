/-
  What the laws of layer 13 share, and show first.
-/
import Derived.Test.YtjikppjlkicgpaaDoorHasDos
import Derived.Test.YtjikppjlkicgpaaDoorLawKit
import Derived.Test.YtjikppjlkicgpaaDoorRefInt
import Derived.Test.YtjikppjlkicgpaaDoorRefBulk
import Derived.Deep.QuietTactic
import Derived.Deep.DeepCutAuto
import Derived.BigQuiet
import Derived.StillTailTactics
import Derived.Deep.RegionLaw
namespace Go.Proofs.YtjikppjlkicgpaaDoor.HasL
open Go.RowKit Kit StrT RowG BOrd ValT StoT ReplyT ReplyMath ValM BytesIn DoT Low HasT NumL NumW NumMath HasM SaidT RefR DoV LawK
set_option linter.unusedVariables false
set_option maxRecDepth 100000

theorem don_to {f : FuncId} {ar : Array Value} {W0 W : World} {x : List Pr × List UInt8} {L' : List Pr} {l' : List UInt8} (h : x = (L', l')) (c : Calls Tryd.prog f ar W0 (DoN (hashV x.1) x.2 W)) : Calls Tryd.prog f ar W0 (DoN (hashV L') l' W) := by
  rw [h] at c
  exact c
theorem hash_S {w : World} {p : PV} {H : List Pr} (hp : p.In w) (hd : p.d = hashV H) : p.S = ⟨#[]⟩ := by
  refine same_bytes ?_
  rw [show p.S.data.toList = p.d.s from VIn.es hp, hd, hashV_s]
theorem on_hash {p : PV} {H : List Pr} (i : Nat) (W : List (List UInt8)) (hd : p.d = hashV H) : doD i p.d W = (hashV (rowD i H (W.drop 2)).1, (rowD i H (W.drop 2)).2) := by
  rw [hd, doD_right (hashV_kind H), hashV_h]
/-- Do, of a hash, with words that lie wherever. -/
theorem onR (i : Nat) (hi : i < 6) (p : PV) (H : List Pr) (nm kk : ByteArray) (A : List (List UInt8)) (q : Option Addr) (n c : Nat) (w : World) (hp : p.In w) (hd : p.d = hashV H) (hg : Gd w) (hn : 2 + A.length = n) (hc : n ≤ c) (hm : needD i ≤ n) (hs : StrT.Ss w q (nm.data.toList :: kk.data.toList :: A)) (hz : nm.size ≤ 140737488351232) (hnm : lowL nm.data.toList = nameD i) (ht : Tame i H A) :
    Calls Tryd.prog 11 #[p.agg, .slice q n c] w (DoN (hashV (rowD i H A).1) (rowD i H A).2 w) := by
  have h := do_any i hi p q (nm.data.toList :: kk.data.toList :: A) n c w hp (by rw [hash_S hp hd]; decide) hg (by simp only [List.length_cons]; omega) hc hm hs (by show nm.data.toList.length ≤ _; rw [str_len]; exact hz) hnm (fun _ => by rw [hd, hashV_h]; exact ht)
  rw [on_hash i _ hd] at h
  exact h
theorem on2 (i : Nat) (hi : i < 6) (nm kk : ByteArray) (hnm : lowL nm.data.toList = nameD i) (hz : nm.size ≤ 140737488351232) (h2 : needD i ≤ 2) (p : PV) (H : List Pr) (w Y : World) (hY : Below (w.alloc (.cells #[.string nm, .string kk] 9)).heap.size (w.alloc (.cells #[.string nm, .string kk] 9)) Y) (hp : p.In w) (hd : p.d = hashV H) (hg : Gd w) (ht : Tame i H []) :
    Calls Tryd.prog 11 #[p.agg, .slice (some ⟨w.heap.size, 0, none⟩) 2 2] Y (DoN (hashV (rowD i H []).1) (rowD i H []).2 w) :=
  (onR i hi p H nm kk [] _ 2 2 _ (pv_keep (pv_keep hp (Kit.below1 _ _)) hY) hd ((hg.keep (Kit.below1 _ _)).keep hY) rfl (Nat.le_refl _) h2 ((ss2_new w nm kk).keep hY) hz hnm ht).mono fun e w' h => doN_w h ((Kit.below1 _ _).trans (hY.mono (Below.size (Kit.below1 _ _))))
theorem on3 (i : Nat) (hi : i < 6) (nm kk x : ByteArray) (hnm : lowL nm.data.toList = nameD i) (hz : nm.size ≤ 140737488351232) (h2 : needD i ≤ 3) (p : PV) (H : List Pr) (w Y : World) (hY : Below (w.alloc (.cells #[.string nm, .string kk, .string x] 9)).heap.size (w.alloc (.cells #[.string nm, .string kk, .string x] 9)) Y) (hp : p.In w) (hd : p.d = hashV H) (hg : Gd w) (ht : Tame i H [x.data.toList]) :
    Calls Tryd.prog 11 #[p.agg, .slice (some ⟨w.heap.size, 0, none⟩) 3 3] Y (DoN (hashV (rowD i H [x.data.toList]).1) (rowD i H [x.data.toList]).2 w) :=
  (onR i hi p H nm kk [x.data.toList] _ 3 3 _ (pv_keep (pv_keep hp (Kit.below1 _ _)) hY) hd ((hg.keep (Kit.below1 _ _)).keep hY) rfl (Nat.le_refl _) h2 ((ss3_new w nm kk x).keep hY) hz hnm ht).mono fun e w' h => doN_w h ((Kit.below1 _ _).trans (hY.mono (Below.size (Kit.below1 _ _))))
theorem on4 (i : Nat) (hi : i < 6) (nm kk x y : ByteArray) (hnm : lowL nm.data.toList = nameD i) (hz : nm.size ≤ 140737488351232) (h2 : needD i ≤ 4) (p : PV) (H : List Pr) (w Y : World) (hY : Below (w.alloc (.cells #[.string nm, .string kk, .string x, .string y] 9)).heap.size (w.alloc (.cells #[.string nm, .string kk, .string x, .string y] 9)) Y) (hp : p.In w) (hd : p.d = hashV H) (hg : Gd w) (ht : Tame i H [x.data.toList, y.data.toList]) :
    Calls Tryd.prog 11 #[p.agg, .slice (some ⟨w.heap.size, 0, none⟩) 4 4] Y (DoN (hashV (rowD i H [x.data.toList, y.data.toList]).1) (rowD i H [x.data.toList, y.data.toList]).2 w) :=
  (onR i hi p H nm kk [x.data.toList, y.data.toList] _ 4 4 _ (pv_keep (pv_keep hp (Kit.below1 _ _)) hY) hd ((hg.keep (Kit.below1 _ _)).keep hY) rfl (Nat.le_refl _) h2 ((ss4_new w nm kk x y).keep hY) hz hnm ht).mono fun e w' h => doN_w h ((Kit.below1 _ _).trans (hY.mono (Below.size (Kit.below1 _ _))))
/-- The pairs of a hash in memory. -/
theorem pv_prs {w : World} {p : PV} {H : List Pr} (h : p.In w) (hd : p.d = hashV H) : p.nh = H.length ∧ p.nh ≤ p.ch ∧ Rs prE w p.qh H := by
  have e : p.d.h = H := by rw [hd, hashV_h]
  have h0 : p.d.h.length = p.nh := VIn.lh h
  have h1 : p.nh ≤ p.ch := VIn.bh h
  have h4 : Rs prE w p.qh p.d.h := VIn.rh h
  rw [e] at h0 h4
  exact ⟨h0.symm, h1, h4⟩
theorem pr_at {w : World} {q : Option Addr} {H : List Pr} (h : Rs prE w q H) (j : Nat) (hj : j < H.length) : ∃ b off, q = some ⟨b, off, none⟩ ∧ b < w.heap.size ∧ w.cell? ⟨b, off + j * 2, none⟩ = some (.string ⟨H[j].name.toArray⟩) ∧ w.cell? ⟨b, off + j * 2 + 1, none⟩ = some (.string ⟨H[j].val.toArray⟩) := by
  obtain ⟨b, off, e, hlt, hc⟩ := h.cells j hj
  exact ⟨b, off, e, hlt, hc 0 (by decide), hc 1 (by decide)⟩

end Go.Proofs.YtjikppjlkicgpaaDoor.HasL
namespace Go.Proofs.YtjikppjlkicgpaaDoor.HasL
open Go.RowKit Kit StrT RowG BOrd ValT StoT ReplyT ReplyMath ValM BytesIn DoT Low LstT HasT NumL NumW NumMath HasM SaidT RefR DoV LawK HasL
set_option linter.unusedVariables false
set_option maxRecDepth 100000


theorem up1 (p : Pr) : Up [p] := up_cons.2 ⟨by simp, up_nil⟩
set_option maxHeartbeats 4000000 in
theorem shown_any (w : World) (hg : Gd w) : Calls Tryd.prog 7 #[] w fun e w' => e = .returned (.bool true) ∧ Below w.heap.size w w' := by
  have HG := Lib.hid (fun W (h : Below w.heap.size w W) => hg.keep h)
  have e1 : rowD 0 [] [[98], [49]] = ([⟨[98], [49]⟩], int 1) := rfl
  have e2 : rowD 5 [⟨[98], [49]⟩] [[97], [53]] = ([⟨[97], [53]⟩, ⟨[98], [49]⟩], int 5) := by decide +kernel
  have C1 := Lib.hid (fun (W Y : World) (g : Nat) (hY : Below (W.alloc (.cells #[.string ⟨#[104, 115, 101, 116]⟩, .string ⟨#[107]⟩, .string ⟨#[98]⟩, .string ⟨#[49]⟩] 9)).heap.size (W.alloc (.cells #[.string ⟨#[104, 115, 101, 116]⟩, .string ⟨#[107]⟩, .string ⟨#[98]⟩, .string ⟨#[49]⟩] 9)) Y) (hgw : g = W.heap.size) (hW : Below w.heap.size w W) => (show Calls Tryd.prog 11 #[.agg #[.int .u8 0, .string ⟨#[]⟩, .slice none 0 0, .slice none 0 0, .slice none 0 0], .slice (some ⟨g, 0, none⟩) 4 4] Y (DoN (hashV [⟨[98], [49]⟩]) (int 1) W) from by subst hgw; exact don_to e1 (on4 0 (by decide) ⟨#[104, 115, 101, 116]⟩ ⟨#[107]⟩ ⟨#[98]⟩ ⟨#[49]⟩ (by decide) (by decide) (by decide) pv0 [] W Y hY (pv0_in W) rfl (HG.out W hW) (tame0 up_nil (Nat.le_refl 2) (by decide)))))
  have C2 := Lib.hid (fun k1 S1 ql1 nl1 cl1 qh1 nh1 ch1 qz1 nz1 cz1 d1 (W Y : World) (g : Nat) (hY : Below (W.alloc (.cells #[.string ⟨#[104, 105, 110, 99, 114, 98, 121]⟩, .string ⟨#[107]⟩, .string ⟨#[97]⟩, .string ⟨#[53]⟩] 9)).heap.size (W.alloc (.cells #[.string ⟨#[104, 105, 110, 99, 114, 98, 121]⟩, .string ⟨#[107]⟩, .string ⟨#[97]⟩, .string ⟨#[53]⟩] 9)) Y) (hgw : g = W.heap.size) (hW : Below w.heap.size w W) (hpv : PV.In W ⟨k1, S1, ql1, nl1, cl1, qh1, nh1, ch1, qz1, nz1, cz1, d1⟩) (hdv : PV.d ⟨k1, S1, ql1, nl1, cl1, qh1, nh1, ch1, qz1, nz1, cz1, d1⟩ = hashV ([⟨[98], [49]⟩])) => (show Calls Tryd.prog 11 #[.agg #[.int .u8 k1, .string S1, .slice ql1 nl1 cl1, .slice qh1 nh1 ch1, .slice qz1 nz1 cz1], .slice (some ⟨g, 0, none⟩) 4 4] Y (DoN (hashV ([⟨[97], [53]⟩, ⟨[98], [49]⟩])) (int 5) W) from by subst hgw; exact don_to (e2) (on4 5 (by decide) ⟨#[104, 105, 110, 99, 114, 98, 121]⟩ ⟨#[107]⟩ ⟨#[97]⟩ ⟨#[53]⟩ (by decide) (by decide) (by decide) ⟨k1, S1, ql1, nl1, cl1, qh1, nh1, ch1, qz1, nz1, cz1, d1⟩ ([⟨[98], [49]⟩]) W Y hY hpv hdv (HG.out W hW) (tame5 (up1 _) (Nat.le_refl 2) (by decide) (by intro x hx; rw [List.mem_singleton.1 hx]; decide) (by decide)))))
  clear hg e1
  go_enter Tryd.func7, Tryd.ntmps7
  go_wp2_with fail
  with_reducible refine (C1.out w _ _ (Below.refl _ _) rfl (Below.refl _ _)).mono ?_
  rintro e wa ⟨p1, vr1, rfl, hI, hd, hn, hA, hb⟩
  obtain ⟨k1, S1, ql1, nl1, cl1, qh1, nh1, ch1, qz1, nz1, cz1, d1⟩ := p1
  dsimp only [PV.agg]
  obtain ⟨qr1, cr1, rfl, hv1⟩ := ans_text hA 4 (by decide +kernel) ⟨#[58, 49, 13, 10]⟩ (by decide +kernel)
  have HB := Lib.hid (hb.trans ((Kit.below1 wa (.cells #[.int .u8 k1, .string S1, .slice ql1 nl1 cl1, .slice qh1 nh1 ch1, .slice qz1 nz1 cz1] 26)).mono hb.size))
  have hbn := (show Below w.heap.size w wa from hb).trans ((Kit.below1 wa (.cells #[.int .u8 k1, .string S1, .slice ql1 nl1 cl1, .slice qh1 nh1 ch1, .slice qz1 nz1 cz1] 26)).mono (show Below w.heap.size w wa from hb).size)
  have HV1 := Lib.hid (show VB _ wa.heap.size ⟨k1, S1, ql1, nl1, cl1, qh1, nh1, ch1, qz1, nz1, cz1, d1⟩ from VB.new hI)
  have HD1 := Lib.hid (show PV.d ⟨k1, S1, ql1, nl1, cl1, qh1, nh1, ch1, qz1, nz1, cz1, d1⟩ = _ from hd)
  have hbx := Kit.below1 wa (.cells #[.int .u8 k1, .string S1, .slice ql1 nl1 cl1, .slice qh1 nh1 ch1, .slice qz1 nz1 cz1] 26)
  have HC1 := Lib.hid (fun W hW => hv1 W (hbx.trans (Below.mono hW hbx.size)))
  clear hbx
  have HL1 := Lib.hid (show w.heap.size ≤ wa.heap.size from Below.size (show Below w.heap.size w wa from hb))
  clear hI hd hn hA hb hbn hv1
  go_upto_region 2 with fail
  generalize hgg : wa.heap.size = g1 at HV1 HL1 ⊢
  clear hgg
  generalize wa.alloc (.cells #[.int .u8 k1, .string S1, .slice ql1 nl1 cl1, .slice qh1 nh1 ch1, .slice qz1 nz1 cz1] 26) = w2 at HV1 HB HC1 ⊢
  obtain ⟨-, -, ra0, ra1, ra2, ra3, ra4⟩ := HV1.out.room
  dsimp only at ra0 ra1 ra2 ra3 ra4
  go_wp2_with fail
  clear ra0 ra1 ra2 ra3 ra4
  with_reducible refine (C2.out k1 S1 ql1 nl1 cl1 qh1 nh1 ch1 qz1 nz1 cz1 d1 w2 _ _ (Below.refl _ _) rfl HB.out HV1.out.pv HD1.out).mono ?_
  rintro e wa ⟨p2, vr2, rfl, hI, hd, hn, hA, hb⟩
  obtain ⟨k2, S2, ql2, nl2, cl2, qh2, nh2, ch2, qz2, nz2, cz2, d2⟩ := p2
  dsimp only [PV.agg]
  obtain ⟨qr2, cr2, rfl, hv2⟩ := ans_text hA 4 (by decide +kernel) ⟨#[58, 53, 13, 10]⟩ (by decide +kernel)
  have hbn := hb.trans ((Kit.below1 wa (.cells #[.int .u8 k2, .string S2, .slice ql2 nl2 cl2, .slice qh2 nh2 ch2, .slice qz2 nz2 cz2] 26)).mono hb.size)
  have HV1 := Lib.hid (HV1.out.keep hbn)
  have HC1 := Lib.hid (fun W hW => HC1.out W (hbn.trans (Below.mono hW hbn.size)))
  have HB := Lib.hid (HB.out.trans (hbn.mono HB.out.size))
  have HV2 := Lib.hid (show VB _ wa.heap.size ⟨k2, S2, ql2, nl2, cl2, qh2, nh2, ch2, qz2, nz2, cz2, d2⟩ from VB.new hI)
  have HD2 := Lib.hid (show PV.d ⟨k2, S2, ql2, nl2, cl2, qh2, nh2, ch2, qz2, nz2, cz2, d2⟩ = _ from hd)
  have hbx := Kit.below1 wa (.cells #[.int .u8 k2, .string S2, .slice ql2 nl2 cl2, .slice qh2 nh2 ch2, .slice qz2 nz2 cz2] 26)
  have HC2 := Lib.hid (fun W hW => hv2 W (hbx.trans (Below.mono hW hbx.size)))
  clear hbx
  have HL2 := Lib.hid (show w2.heap.size ≤ wa.heap.size from Below.size hb)
  clear hI hd hn hA hb hbn hv2
  go_upto_region 3 with fail
  generalize hgg : wa.heap.size = g2 at HV2 HL2 ⊢
  clear hgg
  generalize wa.alloc (.cells #[.int .u8 k2, .string S2, .slice ql2 nl2 cl2, .slice qh2 nh2 ch2, .slice qz2 nz2 cz2] 26) = w3 at HV2 HV1 HC1 HB HC2 ⊢
  obtain ⟨h1, -, -⟩ := pv_prs HV1.out.pv HD1.out
  obtain ⟨h2, h3, h4⟩ := pv_prs HV2.out.pv HD2.out
  dsimp only at h1 h2 h3 h4
  obtain ⟨b, off, e, hlt, c0, c1⟩ := pr_at h4 0 (by decide)
  have hc1 := HC1.out w3 (Below.refl _ _)
  have hc2 := HC2.out w3 (Below.refl _ _)
  have x0 : w3.cell? ⟨b, off, none⟩ = some (.string ⟨#[97]⟩) := c0
  have x1 : w3.cell? ⟨b, off + 1, none⟩ = some (.string ⟨#[53]⟩) := c1
  have ee : ∀ W, (binOp .eql 40 (.agg #[.string ⟨#[97]⟩, .string ⟨#[53]⟩]) (.agg #[.string ⟨#[97]⟩, .string ⟨#[53]⟩])).run Tryd.prog W = .ok (.bool true) W := fun W => by kernel_rfl
  have n1 : nh1 = 1 := h1
  have n2 : nh2 = 2 := h2
  subst n1 n2 e
  obtain ⟨-, -, ra0, ra1, ra2, ra3, ra4⟩ := HV1.out.room
  dsimp only at ra0 ra1 ra2 ra3 ra4
  obtain ⟨-, -, rb0, rb1, rb2, rb3, rb4⟩ := HV2.out.room
  dsimp only at rb0 rb1 rb2 rb3 rb4
  clear C1 C2 HC1 HC2 HD1 HD2 HV1 HV2 HL1 HL2 c0 c1 h1 h2 h3 h4 hlt e2
  go_wp2_with fail
  go_ret
  exact ⟨rfl, HB.out⟩

end Go.Proofs.YtjikppjlkicgpaaDoor.HasL
