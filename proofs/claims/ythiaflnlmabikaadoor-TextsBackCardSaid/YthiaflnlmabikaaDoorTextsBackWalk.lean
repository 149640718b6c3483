/-
  TextsBack: what was appended is got, and counted; what is got and let go of is got no more; a number is more by what it was made more.
-/
import Derived.Test.YthiaflnlmabikaaDoorTxtLaw
import Derived.Test.YthiaflnlmabikaaDoorRefInt
import Derived.Test.YthiaflnlmabikaaDoorRef01
import Derived.Deep.QuietTactic
import Derived.Deep.DeepCutAuto
import Derived.BigQuiet
import Derived.StillTailTactics
namespace Go.Proofs.YthiaflnlmabikaaDoor.textsBack
open Go.RowKit Kit StrT RowG BOrd ValT StoT ReplyT ReplyMath ValM BytesIn DoT Low MapT LstT TxtT NumL NumW NumMath ReplyM TxtM SaidT RefR TxtL
set_option linter.unusedVariables false
set_option maxRecDepth 100000
-- ASKS: NumL.Gd


set_option maxHeartbeats 16000000 in
theorem walk (A B : ByteArray) (k : Int) (w : World) (hA : A.size ≤ 140737488351232) (hB : B.size ≤ 140737488351232) (hk0 : -9223372036854775808 ≤ k) (hk1 : k ≤ 9223372036854775807) (hg : Gd w) :
    Calls Tryd.prog 4 #[.agg #[.string A, .string B], .int .i64 k] w fun e w' => e = .returned (.bool true) ∧ Below w.heap.size w w' := by
  have HG := Lib.hid (fun W (h : Below w.heap.size w W) => hg.keep h)
  have C0 := Lib.hid (fun W (h : Below w.heap.size w W) => shown_any W (hg.keep h))
  obtain ⟨X, hX⟩ : ∃ X : ByteArray, X = if A.size ≤ 40 then A else A.extract 0 40 := ⟨_, rfl⟩
  have hXz := cutN hX
  obtain ⟨ma, hma⟩ : ∃ ma : Nat, ma = min A.size 40 := ⟨_, rfl⟩
  have hminma : min (A.size : Int) 40 = (ma : Int) := by omega
  have slX : ∀ W, (Instr.slice 9 (.string A) none (some (.int .i64 (ma : Int))) none).run Tryd.prog W = .ok (.string X) W := fun W => by
    have h := run_slice_string_h (P := Tryd.prog) W 9 A Tryd.underlying9 .i64 (ma : Int) (by omega) (by omega)
    rw [h, hX]
    split
    · rw [show ((ma : Nat) : Int).toNat = A.size by omega, ByteArray.extract_zero_size]
    · rw [show ((ma : Nat) : Int).toNat = 40 by omega]
  clear hX hma
  obtain ⟨Z, hZ⟩ : ∃ Z : ByteArray, Z = if B.size ≤ 40 then B else B.extract 0 40 := ⟨_, rfl⟩
  have hZz := cutN hZ
  obtain ⟨mb, hmb⟩ : ∃ mb : Nat, mb = min B.size 40 := ⟨_, rfl⟩
  have hminmb : min (B.size : Int) 40 = (mb : Int) := by omega
  have slZ : ∀ W, (Instr.slice 9 (.string B) none (some (.int .i64 (mb : Int))) none).run Tryd.prog W = .ok (.string Z) W := fun W => by
    have h := run_slice_string_h (P := Tryd.prog) W 9 B Tryd.underlying9 .i64 (mb : Int) (by omega) (by omega)
    rw [h, hZ]
    split
    · rw [show ((mb : Nat) : Int).toNat = B.size by omega, ByteArray.extract_zero_size]
    · rw [show ((mb : Nat) : Int).toNat = 40 by omega]
  clear hZ hmb
  obtain ⟨Y, hY⟩ : ∃ Y, Y = X ++ Z := ⟨_, rfl⟩
  have ad := add_str X Z (by omega)
  rw [← hY] at ad
  have HY := Lib.hid (show Y.data.toList = X.data.toList ++ Z.data.toList by rw [hY]; simp)
  have hYz : Y.size ≤ 80 := by rw [hY, ByteArray.size_append]; omega
  have HYl := Lib.hid (show Y.size = X.size + Z.size by rw [hY, ByteArray.size_append])
  obtain ⟨F, hF⟩ : ∃ F : ByteArray, F = ⟨(Lib.itoa k).toArray⟩ := ⟨_, rfl⟩
  have hFz : F.size ≤ 20 := by rw [hF]; exact itoa_size k hk0 hk1
  have HF := Lib.hid (show F.data.toList = Lib.itoa k by rw [hF])
  have CT := Lib.hid (fun W => (show Calls Tryd.prog 13 #[.int .i64 k] W (fun e w' => e = .returned (.string F) ∧ Below W.heap.size W w') by rw [hF]; exact Ref01.text_any k.natAbs k W (Nat.le_refl _) hk0 hk1))
  clear hY hF hg
  have C1 := Lib.hid (fun (W : World) (g : Nat) (hgw : g = W.heap.size) (hW : Below w.heap.size w W) (hpv : PV.In W (pv0)) => (show Calls Tryd.prog 12 #[.agg #[.int .u8 0, .string ⟨#[]⟩, .slice none 0 0, .slice none 0 0, .slice none 0 0], .slice (some ⟨g, 0, none⟩) 3 3] (W.alloc (.cells #[.string ⟨#[97, 112, 112, 101, 110, 100]⟩, .string ⟨#[107]⟩, .string X] 9)) (DoW (textV X.data.toList) (int (X.data.toList.length : Int)) W) from by subst hgw; exact dow_to (doD_new _ _ _) (call3 2 ⟨#[97, 112, 112, 101, 110, 100]⟩ ⟨#[107]⟩ X (by decide) (by decide) ⟨by decide, by decide⟩ (by omega) (pv0) W hpv (by decide) (HG.out W hW))))
  have C2 := Lib.hid (fun k1 ql1 nl1 cl1 qh1 nh1 ch1 qz1 nz1 cz1 d1 (hdv : d1 = textV X.data.toList) (hSz : (X : ByteArray).size ≤ 1048576) (W : World) (g : Nat) (hgw : g = W.heap.size) (hW : Below w.heap.size w W) (hpv : PV.In W (⟨k1, X, ql1, nl1, cl1, qh1, nh1, ch1, qz1, nz1, cz1, d1⟩)) => (show Calls Tryd.prog 12 #[.agg #[.int .u8 k1, .string X, .slice ql1 nl1 cl1, .slice qh1 nh1 ch1, .slice qz1 nz1 cz1], .slice (some ⟨g, 0, none⟩) 3 3] (W.alloc (.cells #[.string ⟨#[97, 112, 112, 101, 110, 100]⟩, .string ⟨#[107]⟩, .string Z] 9)) (DoW (textV Y.data.toList) (int (Y.size : Int)) W) from by subst hgw; exact dow_to (by rw [show PV.d ⟨k1, X, ql1, nl1, cl1, qh1, nh1, ch1, qz1, nz1, cz1, d1⟩ = textV X.data.toList from hdv]; exact by rw [doD_app _ _ X.data.toList Z.data.toList X.data.toList (Or.inr rfl) rfl, HY.out, HYl.out, str_len, str_len]) (call3 2 ⟨#[97, 112, 112, 101, 110, 100]⟩ ⟨#[107]⟩ Z (by decide) (by decide) ⟨by decide, by decide⟩ (by omega) (⟨k1, X, ql1, nl1, cl1, qh1, nh1, ch1, qz1, nz1, cz1, d1⟩) W hpv hSz (HG.out W hW))))
  have C3 := Lib.hid (fun k2 ql2 nl2 cl2 qh2 nh2 ch2 qz2 nz2 cz2 d2 (hdv : d2 = textV Y.data.toList) (hSz : (Y : ByteArray).size ≤ 1048576) (W : World) (g : Nat) (hgw : g = W.heap.size) (hW : Below w.heap.size w W) (hpv : PV.In W (⟨k2, Y, ql2, nl2, cl2, qh2, nh2, ch2, qz2, nz2, cz2, d2⟩)) => (show Calls Tryd.prog 12 #[.agg #[.int .u8 k2, .string Y, .slice ql2 nl2 cl2, .slice qh2 nh2 ch2, .slice qz2 nz2 cz2], .slice (some ⟨g, 0, none⟩) 2 2] (W.alloc (.cells #[.string ⟨#[103, 101, 116]⟩, .string ⟨#[107]⟩] 9)) (DoW (textV Y.data.toList) (bulk Y.data.toList) W) from by subst hgw; exact dow_to (by rw [show PV.d ⟨k2, Y, ql2, nl2, cl2, qh2, nh2, ch2, qz2, nz2, cz2, d2⟩ = textV Y.data.toList from hdv]; exact doD_get _ (Or.inr rfl)) (call2 0 ⟨#[103, 101, 116]⟩ ⟨#[107]⟩ (by decide) (by decide) (by decide) ⟨by decide, by decide⟩ (⟨k2, Y, ql2, nl2, cl2, qh2, nh2, ch2, qz2, nz2, cz2, d2⟩) W hpv hSz (HG.out W hW))))
  have C4 := Lib.hid (fun k2 ql2 nl2 cl2 qh2 nh2 ch2 qz2 nz2 cz2 d2 (hdv : d2 = textV Y.data.toList) (hSz : (Y : ByteArray).size ≤ 1048576) (W : World) (g : Nat) (hgw : g = W.heap.size) (hW : Below w.heap.size w W) (hpv : PV.In W (⟨k2, Y, ql2, nl2, cl2, qh2, nh2, ch2, qz2, nz2, cz2, d2⟩)) => (show Calls Tryd.prog 12 #[.agg #[.int .u8 k2, .string Y, .slice ql2 nl2 cl2, .slice qh2 nh2 ch2, .slice qz2 nz2 cz2], .slice (some ⟨g, 0, none⟩) 2 2] (W.alloc (.cells #[.string ⟨#[115, 116, 114, 108, 101, 110]⟩, .string ⟨#[107]⟩] 9)) (DoW (textV Y.data.toList) (int (Y.size : Int)) W) from by subst hgw; exact dow_to (by rw [show PV.d ⟨k2, Y, ql2, nl2, cl2, qh2, nh2, ch2, qz2, nz2, cz2, d2⟩ = textV Y.data.toList from hdv]; exact by rw [doD_len _ (Or.inr rfl)]; show (_, int (Y.data.toList.length : Int)) = _; rw [str_len]) (call2 3 ⟨#[115, 116, 114, 108, 101, 110]⟩ ⟨#[107]⟩ (by decide) (by decide) (by decide) ⟨by decide, by decide⟩ (⟨k2, Y, ql2, nl2, cl2, qh2, nh2, ch2, qz2, nz2, cz2, d2⟩) W hpv hSz (HG.out W hW))))
  have C5 := Lib.hid (fun k2 ql2 nl2 cl2 qh2 nh2 ch2 qz2 nz2 cz2 d2 (hdv : d2 = textV Y.data.toList) (hSz : (Y : ByteArray).size ≤ 1048576) (W : World) (g : Nat) (hgw : g = W.heap.size) (hW : Below w.heap.size w W) (hpv : PV.In W (⟨k2, Y, ql2, nl2, cl2, qh2, nh2, ch2, qz2, nz2, cz2, d2⟩)) => (show Calls Tryd.prog 12 #[.agg #[.int .u8 k2, .string Y, .slice ql2 nl2 cl2, .slice qh2 nh2 ch2, .slice qz2 nz2 cz2], .slice (some ⟨g, 0, none⟩) 2 2] (W.alloc (.cells #[.string ⟨#[103, 101, 116, 100, 101, 108]⟩, .string ⟨#[107]⟩] 9)) (DoW (v0) (bulk Y.data.toList) W) from by subst hgw; exact dow_to (by rw [show PV.d ⟨k2, Y, ql2, nl2, cl2, qh2, nh2, ch2, qz2, nz2, cz2, d2⟩ = textV Y.data.toList from hdv]; exact doD_getdel _ (Or.inr rfl)) (call2 1 ⟨#[103, 101, 116, 100, 101, 108]⟩ ⟨#[107]⟩ (by decide) (by decide) (by decide) ⟨by decide, by decide⟩ (⟨k2, Y, ql2, nl2, cl2, qh2, nh2, ch2, qz2, nz2, cz2, d2⟩) W hpv hSz (HG.out W hW))))
  have C6 := Lib.hid (fun k5 ql5 nl5 cl5 qh5 nh5 ch5 qz5 nz5 cz5 d5 (hdv : d5 = v0) (hSz : (⟨#[]⟩ : ByteArray).size ≤ 1048576) (W : World) (g : Nat) (hgw : g = W.heap.size) (hW : Below w.heap.size w W) (hpv : PV.In W (⟨k5, ⟨#[]⟩, ql5, nl5, cl5, qh5, nh5, ch5, qz5, nz5, cz5, d5⟩)) => (show Calls Tryd.prog 12 #[.agg #[.int .u8 k5, .string ⟨#[]⟩, .slice ql5 nl5 cl5, .slice qh5 nh5 ch5, .slice qz5 nz5 cz5], .slice (some ⟨g, 0, none⟩) 2 2] (W.alloc (.cells #[.string ⟨#[103, 101, 116]⟩, .string ⟨#[107]⟩] 9)) (DoW (v0) (null) W) from by subst hgw; exact dow_to (by rw [show PV.d ⟨k5, ⟨#[]⟩, ql5, nl5, cl5, qh5, nh5, ch5, qz5, nz5, cz5, d5⟩ = v0 from hdv]; exact doD_get _ (Or.inl rfl)) (call2 0 ⟨#[103, 101, 116]⟩ ⟨#[107]⟩ (by decide) (by decide) (by decide) ⟨by decide, by decide⟩ (⟨k5, ⟨#[]⟩, ql5, nl5, cl5, qh5, nh5, ch5, qz5, nz5, cz5, d5⟩) W hpv hSz (HG.out W hW))))
  have C7 := Lib.hid (fun (W : World) (g : Nat) (hgw : g = W.heap.size) (hW : Below w.heap.size w W) (hpv : PV.In W (pv0)) => (show Calls Tryd.prog 12 #[.agg #[.int .u8 0, .string ⟨#[]⟩, .slice none 0 0, .slice none 0 0, .slice none 0 0], .slice (some ⟨g, 0, none⟩) 3 3] (W.alloc (.cells #[.string ⟨#[105, 110, 99, 114, 98, 121]⟩, .string ⟨#[107]⟩, .string F] 9)) (DoW (textV F.data.toList) (int k) W) from by subst hgw; exact dow_to (by have h := doD_by (d := v0) (a := [105, 110, 99, 114, 98, 121]) (b := [107]) (m := 0) (Or.inl rfl) ⟨rfl, rfl⟩ HF.out hk0 hk1 (by omega) (by omega); rw [Int.zero_add, ← HF.out] at h; exact h) (call3 4 ⟨#[105, 110, 99, 114, 98, 121]⟩ ⟨#[107]⟩ F (by decide) (by decide) ⟨by decide, by decide⟩ (by omega) (pv0) W hpv (by decide) (HG.out W hW))))
  clear ad
  have HXS := Lib.hid (show X.size ≤ 1048576 by omega)
  have HYS := Lib.hid (show Y.size ≤ 1048576 by omega)
  have HFS := Lib.hid (show F.size ≤ 1048576 by omega)
  have ad := add_str X Z (by omega)
  rw [show X ++ Z = Y from (same_bytes (by rw [HY.out]; simp)).symm] at ad
  have HBx := Lib.hid (Kit.below1 w (.cells #[.string A, .string B] 36))
  have ca : (w.alloc (.cells #[.string A, .string B] 36)).cell? ⟨w.heap.size, 0, none⟩ = some (.string A) := by simp [World.cell?_alloc_mark]
  have cb : (w.alloc (.cells #[.string A, .string B] 36)).cell? ⟨w.heap.size, 1, none⟩ = some (.string B) := by simp [World.cell?_alloc_mark]
  have HLt := Lib.hid (show w.heap.size < (w.alloc (.cells #[.string A, .string B] 36)).heap.size by simp)
  go_enter Tryd.func4, Tryd.ntmps4
  go_upto_region 1 with fail
  generalize w.alloc (.cells #[.string A, .string B] 36) = w0 at HBx ca cb HLt ⊢
  go_wp2_with fail
  with_reducible refine (C0.out w0 HBx.out).mono ?_
  rintro e w1 ⟨rfl, hb1⟩
  have HB := Lib.hid (HBx.out.trans (hb1.mono HBx.out.size))
  have ca1 := (hb1.cell (p := ⟨w.heap.size, 0, none⟩) HLt.out).trans ca
  have cb1 := (hb1.cell (p := ⟨w.heap.size, 1, none⟩) HLt.out).trans cb
  clear hb1 HBx ca cb C0
  go_wp2_with fail
  clear ca1 cb1
  with_reducible refine (C1.out w1 _ rfl HB.out (pv0_in _)).mono ?_
  rintro e wa1 ⟨p1, vr1, rfl, hI, hd, hs, hA, hb⟩
  obtain ⟨k1, S1, ql1, nl1, cl1, qh1, nh1, ch1, qz1, nz1, cz1, d1⟩ := p1
  dsimp only [PV.agg]
  obtain rfl : X = S1 := (text_eq hs rfl).symm
  have HI1 := Lib.hid hI
  have HD1 := Lib.hid (show d1 = _ from hd)
  have HBz := Lib.hid (Nat.le_trans HB.out.size hb.size)
  have hbn := hb.trans ((Kit.below1 wa1 (.cells #[.int .u8 k1, .string X, .slice ql1 nl1 cl1, .slice qh1 nh1 ch1, .slice qz1 nz1 cz1] 26)).mono hb.size)
  have HB := Lib.hid (HB.out.trans (hbn.mono HB.out.size))
  have HV1 := Lib.hid (show VB _ wa1.heap.size ⟨k1, X, ql1, nl1, cl1, qh1, nh1, ch1, qz1, nz1, cz1, d1⟩ from VB.new HI1.out)
  clear hI hd hs hA hb hbn
  go_upto_region 5 with fail
  have HGg := Lib.hid (show w.heap.size ≤ wa1.heap.size from HBz.out)
  generalize hgg : wa1.heap.size = g1 at HGg HV1 ⊢
  clear hgg
  generalize wa1.alloc (.cells #[.int .u8 k1, .string X, .slice ql1 nl1 cl1, .slice qh1 nh1 ch1, .slice qz1 nz1 cz1] 26) = w2 at HB HV1 ⊢
  obtain ⟨-, -, rHV10, rHV11, rHV12, rHV13, rHV14⟩ := HV1.out.room
  dsimp only at rHV10 rHV11 rHV12 rHV13 rHV14
  go_wp2_with fail
  clear rHV10 rHV11 rHV12 rHV13 rHV14
  with_reducible refine (C2.out k1 ql1 nl1 cl1 qh1 nh1 ch1 qz1 nz1 cz1 d1 HD1.out HXS.out w2 _ rfl HB.out HV1.out.pv).mono ?_
  rintro e wa2 ⟨p2, vr2, rfl, hI, hd, hs, hA, hb⟩
  obtain ⟨k2, S2, ql2, nl2, cl2, qh2, nh2, ch2, qz2, nz2, cz2, d2⟩ := p2
  dsimp only [PV.agg]
  obtain rfl : Y = S2 := (text_eq hs rfl).symm
  have hA' := ans_high (w' := wa2.setRow g1 #[.int .u8 k2, .string Y, .slice ql2 nl2 cl2, .slice qh2 nh2 ch2, .slice qz2 nz2 cz2]) hA (by simp) (fun j hj => setRow_other _ _ _ _ (by have := HV1.out.lt; omega))
  obtain ⟨NI, HNI⟩ : ∃ NI, Hid ((int (Y.size : Int)).length = NI) := ⟨_, Lib.hid rfl⟩
  obtain ⟨XI, HXI⟩ : ∃ XI : ByteArray, Hid (XI.data.toList = int (Y.size : Int)) := ⟨⟨(int (Y.size : Int)).toArray⟩, Lib.hid rfl⟩
  obtain ⟨q2, c2, rfl, hv2⟩ := ans_text hA' NI HNI.out XI HXI.out
  have HI2 := Lib.hid hI
  have HD2 := Lib.hid (show d2 = _ from hd)
  have HV1 := Lib.hid (HV1.out.keep hb)
  have HV2 := Lib.hid (VB.text HV1.out HI2.out HD2.out)
  dsimp only at HV2
  have HB := Lib.hid (HB.out.trans (hb.mono HB.out.size))
  have HB := Lib.hid (below_setRow HB.out HGg.out #[.int .u8 k2, .string Y, .slice ql2 nl2 cl2, .slice qh2 nh2 ch2, .slice qz2 nz2 cz2])
  have HC2 := Lib.hid hv2
  have HCs2 := Lib.hid (show (Tryd.prog.info? 26).map (·.size) = some (#[.int .u8 k2, .string Y, .slice ql2 nl2 cl2, .slice qh2 nh2 ch2, .slice qz2 nz2 cz2] : Array Value).size from val_size)
  have HOn2 := Lib.hid (show (#[.int .u8 k2, .string Y, .slice ql2 nl2 cl2, .slice qh2 nh2 ch2, .slice qz2 nz2 cz2] : Array Value).all (·.oneCell') = true by simp [Value.oneCell'])
  clear hI hd hs hA hA' hb hv2 C1 C2
  go_upto_region 6 with (with_reducible refine wpList_store_row rfl 26 (.tmp 8) (.tmp 50) rfl g1 #[.int .u8 k2, .string Y, .slice ql2 nl2 cl2, .slice qh2 nh2 ch2, .slice qz2 nz2 cz2] rfl rfl 26 _ HV1.out.hp HCs2.out rfl HOn2.out ?_)
  clear HV1 HCs2 HOn2
  generalize wa2.setRow g1 #[.int .u8 k2, .string Y, .slice ql2 nl2 cl2, .slice qh2 nh2 ch2, .slice qz2 nz2 cz2] = w3 at HB HV2 HC2 ⊢
  obtain ⟨-, -, rHV20, rHV21, rHV22, rHV23, rHV24⟩ := HV2.out.room
  dsimp only at rHV20 rHV21 rHV22 rHV23 rHV24
  go_wp2_with fail
  clear rHV20 rHV21 rHV22 rHV23 rHV24
  obtain ⟨NBk, HNBk⟩ : ∃ NI, Hid ((bulk Y.data.toList).length = NI) := ⟨_, Lib.hid rfl⟩
  obtain ⟨XBk, HXBk⟩ : ∃ XI : ByteArray, Hid (XI.data.toList = bulk Y.data.toList) := ⟨⟨(bulk Y.data.toList).toArray⟩, Lib.hid rfl⟩
  obtain ⟨NIk, HNIk⟩ : ∃ NI, Hid ((int k).length = NI) := ⟨_, Lib.hid rfl⟩
  obtain ⟨XIk, HXIk⟩ : ∃ XI : ByteArray, Hid (XI.data.toList = int k) := ⟨⟨(int k).toArray⟩, Lib.hid rfl⟩
  with_reducible refine (C3.out k2 ql2 nl2 cl2 qh2 nh2 ch2 qz2 nz2 cz2 d2 HD2.out HYS.out w3 _ rfl HB.out HV2.out.pv).mono ?_
  rintro e wa3 ⟨p3, vr3, rfl, hI, hd, hs, hA, hb⟩
  obtain ⟨k3, S3, ql3, nl3, cl3, qh3, nh3, ch3, qz3, nz3, cz3, d3⟩ := p3
  dsimp only [PV.agg]
  obtain ⟨q3, c3, rfl, hv3⟩ := ans_text hA NBk HNBk.out XBk HXBk.out
  have HI3 := Lib.hid hI
  have HD3 := Lib.hid (show d3 = _ from hd)
  have hbn := hb.trans ((Kit.below1 wa3 (.cells #[.int .u8 k3, .string S3, .slice ql3 nl3 cl3, .slice qh3 nh3 ch3, .slice qz3 nz3 cz3] 26)).mono hb.size)
  have HB := Lib.hid (HB.out.trans (hbn.mono HB.out.size))
  have HV2 := Lib.hid (HV2.out.keep hbn)
  have HC2 := Lib.hid (fun W hW => HC2.out W (hbn.trans (Below.mono hW hbn.size)))
  have HV3 := Lib.hid (show VB _ wa3.heap.size ⟨k3, S3, ql3, nl3, cl3, qh3, nh3, ch3, qz3, nz3, cz3, d3⟩ from VB.new HI3.out)
  have hbx := Kit.below1 wa3 (.cells #[.int .u8 k3, .string S3, .slice ql3 nl3 cl3, .slice qh3 nh3 ch3, .slice qz3 nz3 cz3] 26)
  have HC3 := Lib.hid (fun W hW => hv3 W (hbx.trans (Below.mono hW hbx.size)))
  clear hbx
  clear hI hd hs hA hb hbn hv3
  go_upto_region 7 with fail
  generalize hgg : wa3.heap.size = g3 at HV3 ⊢
  clear hgg
  generalize wa3.alloc (.cells #[.int .u8 k3, .string S3, .slice ql3 nl3 cl3, .slice qh3 nh3 ch3, .slice qz3 nz3 cz3] 26) = w4 at HB HV3 HV2 HC2 HC3 ⊢
  obtain ⟨-, -, rHV20, rHV21, rHV22, rHV23, rHV24⟩ := HV2.out.room
  dsimp only at rHV20 rHV21 rHV22 rHV23 rHV24
  go_wp2_with fail
  clear rHV20 rHV21 rHV22 rHV23 rHV24
  clear HV3 HI3 HD3 C3
  with_reducible refine (C4.out k2 ql2 nl2 cl2 qh2 nh2 ch2 qz2 nz2 cz2 d2 HD2.out HYS.out w4 _ rfl HB.out HV2.out.pv).mono ?_
  rintro e wa4 ⟨p4, vr4, rfl, hI, hd, hs, hA, hb⟩
  obtain ⟨k4, S4, ql4, nl4, cl4, qh4, nh4, ch4, qz4, nz4, cz4, d4⟩ := p4
  dsimp only [PV.agg]
  obtain ⟨q4, c4, rfl, hv4⟩ := ans_text hA NI HNI.out XI HXI.out
  have HI4 := Lib.hid hI
  have HD4 := Lib.hid (show d4 = _ from hd)
  have hbn := hb.trans ((Kit.below1 wa4 (.cells #[.int .u8 k4, .string S4, .slice ql4 nl4 cl4, .slice qh4 nh4 ch4, .slice qz4 nz4 cz4] 26)).mono hb.size)
  have HB := Lib.hid (HB.out.trans (hbn.mono HB.out.size))
  have HV2 := Lib.hid (HV2.out.keep hbn)
  have HC2 := Lib.hid (fun W hW => HC2.out W (hbn.trans (Below.mono hW hbn.size)))
  have HC3 := Lib.hid (fun W hW => HC3.out W (hbn.trans (Below.mono hW hbn.size)))
  have HV4 := Lib.hid (show VB _ wa4.heap.size ⟨k4, S4, ql4, nl4, cl4, qh4, nh4, ch4, qz4, nz4, cz4, d4⟩ from VB.new HI4.out)
  have hbx := Kit.below1 wa4 (.cells #[.int .u8 k4, .string S4, .slice ql4 nl4 cl4, .slice qh4 nh4 ch4, .slice qz4 nz4 cz4] 26)
  have HC4 := Lib.hid (fun W hW => hv4 W (hbx.trans (Below.mono hW hbx.size)))
  clear hbx
  clear hI hd hs hA hb hbn hv4
  go_upto_region 8 with fail
  generalize hgg : wa4.heap.size = g4 at HV4 ⊢
  clear hgg
  generalize wa4.alloc (.cells #[.int .u8 k4, .string S4, .slice ql4 nl4 cl4, .slice qh4 nh4 ch4, .slice qz4 nz4 cz4] 26) = w5 at HB HV4 HV2 HC2 HC3 HC4 ⊢
  obtain ⟨-, -, rHV20, rHV21, rHV22, rHV23, rHV24⟩ := HV2.out.room
  dsimp only at rHV20 rHV21 rHV22 rHV23 rHV24
  go_wp2_with fail
  clear rHV20 rHV21 rHV22 rHV23 rHV24
  clear HV4 HI4 HD4 C4
  with_reducible refine (C5.out k2 ql2 nl2 cl2 qh2 nh2 ch2 qz2 nz2 cz2 d2 HD2.out HYS.out w5 _ rfl HB.out HV2.out.pv).mono ?_
  rintro e wa5 ⟨p5, vr5, rfl, hI, hd, hs, hA, hb⟩
  obtain ⟨k5, S5, ql5, nl5, cl5, qh5, nh5, ch5, qz5, nz5, cz5, d5⟩ := p5
  dsimp only [PV.agg]
  obtain ⟨q5, c5, rfl, hv5⟩ := ans_text hA NBk HNBk.out XBk HXBk.out
  obtain rfl : S5 = ⟨#[]⟩ := same_bytes hs
  have HI5 := Lib.hid hI
  have HD5 := Lib.hid (show d5 = _ from hd)
  have hbn := hb.trans ((Kit.below1 wa5 (.cells #[.int .u8 k5, .string ⟨#[]⟩, .slice ql5 nl5 cl5, .slice qh5 nh5 ch5, .slice qz5 nz5 cz5] 26)).mono hb.size)
  have HB := Lib.hid (HB.out.trans (hbn.mono HB.out.size))
  have HV2 := Lib.hid (HV2.out.keep hbn)
  have HC2 := Lib.hid (fun W hW => HC2.out W (hbn.trans (Below.mono hW hbn.size)))
  have HC3 := Lib.hid (fun W hW => HC3.out W (hbn.trans (Below.mono hW hbn.size)))
  have HC4 := Lib.hid (fun W hW => HC4.out W (hbn.trans (Below.mono hW hbn.size)))
  have HV5 := Lib.hid (show VB _ wa5.heap.size ⟨k5, ⟨#[]⟩, ql5, nl5, cl5, qh5, nh5, ch5, qz5, nz5, cz5, d5⟩ from VB.new HI5.out)
  have hbx := Kit.below1 wa5 (.cells #[.int .u8 k5, .string ⟨#[]⟩, .slice ql5 nl5 cl5, .slice qh5 nh5 ch5, .slice qz5 nz5 cz5] 26)
  have HC5 := Lib.hid (fun W hW => hv5 W (hbx.trans (Below.mono hW hbx.size)))
  clear hbx
  clear hI hd hs hA hb hbn hv5
  go_upto_region 9 with fail
  generalize hgg : wa5.heap.size = g5 at HV5 ⊢
  clear hgg
  generalize wa5.alloc (.cells #[.int .u8 k5, .string ⟨#[]⟩, .slice ql5 nl5 cl5, .slice qh5 nh5 ch5, .slice qz5 nz5 cz5] 26) = w6 at HB HV5 HV2 HC2 HC3 HC4 HC5 ⊢
  obtain ⟨-, -, rHV50, rHV51, rHV52, rHV53, rHV54⟩ := HV5.out.room
  dsimp only at rHV50 rHV51 rHV52 rHV53 rHV54
  go_wp2_with fail
  clear rHV50 rHV51 rHV52 rHV53 rHV54
  clear HV2 C5
  with_reducible refine (C6.out k5 ql5 nl5 cl5 qh5 nh5 ch5 qz5 nz5 cz5 d5 HD5.out (by decide) w6 _ rfl HB.out HV5.out.pv).mono ?_
  rintro e wa6 ⟨p6, vr6, rfl, hI, hd, hs, hA, hb⟩
  obtain ⟨k6, S6, ql6, nl6, cl6, qh6, nh6, ch6, qz6, nz6, cz6, d6⟩ := p6
  dsimp only [PV.agg]
  obtain ⟨q6, c6, rfl, hv6⟩ := ans_text hA 5 (by decide) ⟨#[36, 45, 49, 13, 10]⟩ (by decide)
  have HI6 := Lib.hid hI
  have HD6 := Lib.hid (show d6 = _ from hd)
  have hbn := hb.trans ((Kit.below1 wa6 (.cells #[.int .u8 k6, .string S6, .slice ql6 nl6 cl6, .slice qh6 nh6 ch6, .slice qz6 nz6 cz6] 26)).mono hb.size)
  have HB := Lib.hid (HB.out.trans (hbn.mono HB.out.size))
  have HV5 := Lib.hid (HV5.out.keep hbn)
  have HC2 := Lib.hid (fun W hW => HC2.out W (hbn.trans (Below.mono hW hbn.size)))
  have HC3 := Lib.hid (fun W hW => HC3.out W (hbn.trans (Below.mono hW hbn.size)))
  have HC4 := Lib.hid (fun W hW => HC4.out W (hbn.trans (Below.mono hW hbn.size)))
  have HC5 := Lib.hid (fun W hW => HC5.out W (hbn.trans (Below.mono hW hbn.size)))
  have HV6 := Lib.hid (show VB _ wa6.heap.size ⟨k6, S6, ql6, nl6, cl6, qh6, nh6, ch6, qz6, nz6, cz6, d6⟩ from VB.new HI6.out)
  have hbx := Kit.below1 wa6 (.cells #[.int .u8 k6, .string S6, .slice ql6 nl6 cl6, .slice qh6 nh6 ch6, .slice qz6 nz6 cz6] 26)
  have HC6 := Lib.hid (fun W hW => hv6 W (hbx.trans (Below.mono hW hbx.size)))
  clear hbx
  clear hI hd hs hA hb hbn hv6
  go_upto_region 10 with fail
  generalize hgg : wa6.heap.size = g6 at HV6 ⊢
  clear hgg
  generalize wa6.alloc (.cells #[.int .u8 k6, .string S6, .slice ql6 nl6 cl6, .slice qh6 nh6 ch6, .slice qz6 nz6 cz6] 26) = w7 at HB HV6 HV5 HC2 HC3 HC4 HC5 HC6 ⊢
  go_wp2_with fail
  clear HV6 HI6 HD6 C6
  with_reducible refine (CT.out _).mono ?_
  rintro e w8 ⟨rfl, hb8⟩
  have HB := Lib.hid (HB.out.trans (hb8.mono HB.out.size))
  have HV5 := Lib.hid (HV5.out.keep hb8)
  have HC2 := Lib.hid (fun W hW => HC2.out W (hb8.trans (Below.mono hW hb8.size)))
  have HC3 := Lib.hid (fun W hW => HC3.out W (hb8.trans (Below.mono hW hb8.size)))
  have HC4 := Lib.hid (fun W hW => HC4.out W (hb8.trans (Below.mono hW hb8.size)))
  have HC5 := Lib.hid (fun W hW => HC5.out W (hb8.trans (Below.mono hW hb8.size)))
  have HC6 := Lib.hid (fun W hW => HC6.out W (hb8.trans (Below.mono hW hb8.size)))
  clear hb8
  go_wp2_with fail
  with_reducible refine (C7.out w8 _ rfl HB.out (pv0_in _)).mono ?_
  rintro e wa7 ⟨p7, vr7, rfl, hI, hd, hs, hA, hb⟩
  obtain ⟨k7, S7, ql7, nl7, cl7, qh7, nh7, ch7, qz7, nz7, cz7, d7⟩ := p7
  dsimp only [PV.agg]
  obtain ⟨q7, c7, rfl, hv7⟩ := ans_text hA NIk HNIk.out XIk HXIk.out
  obtain rfl : F = S7 := (text_eq hs rfl).symm
  have HI7 := Lib.hid hI
  have HD7 := Lib.hid (show d7 = _ from hd)
  have hbn := hb.trans ((Kit.below1 wa7 (.cells #[.int .u8 k7, .string F, .slice ql7 nl7 cl7, .slice qh7 nh7 ch7, .slice qz7 nz7 cz7] 26)).mono hb.size)
  have HB := Lib.hid (HB.out.trans (hbn.mono HB.out.size))
  have HV5 := Lib.hid (HV5.out.keep hbn)
  have HC2 := Lib.hid (fun W hW => HC2.out W (hbn.trans (Below.mono hW hbn.size)))
  have HC3 := Lib.hid (fun W hW => HC3.out W (hbn.trans (Below.mono hW hbn.size)))
  have HC4 := Lib.hid (fun W hW => HC4.out W (hbn.trans (Below.mono hW hbn.size)))
  have HC5 := Lib.hid (fun W hW => HC5.out W (hbn.trans (Below.mono hW hbn.size)))
  have HC6 := Lib.hid (fun W hW => HC6.out W (hbn.trans (Below.mono hW hbn.size)))
  have HV7 := Lib.hid (show VB _ wa7.heap.size ⟨k7, F, ql7, nl7, cl7, qh7, nh7, ch7, qz7, nz7, cz7, d7⟩ from VB.new HI7.out)
  have hbx := Kit.below1 wa7 (.cells #[.int .u8 k7, .string F, .slice ql7 nl7 cl7, .slice qh7 nh7 ch7, .slice qz7 nz7 cz7] 26)
  have HC7 := Lib.hid (fun W hW => hv7 W (hbx.trans (Below.mono hW hbx.size)))
  clear hbx
  clear hI hd hs hA hb hbn hv7
  go_upto_region 11 with fail
  generalize hgg : wa7.heap.size = g7 at HV7 ⊢
  clear hgg
  generalize wa7.alloc (.cells #[.int .u8 k7, .string F, .slice ql7 nl7 cl7, .slice qh7 nh7 ch7, .slice qz7 nz7 cz7] 26) = w9 at HB HV7 HV5 HC2 HC3 HC4 HC5 HC6 HC7 ⊢
  obtain ⟨-, -, rHV70, rHV71, rHV72, rHV73, rHV74⟩ := HV7.out.room
  dsimp only at rHV70 rHV71 rHV72 rHV73 rHV74
  go_wp2_with fail
  clear rHV70 rHV71 rHV72 rHV73 rHV74
  clear C7
  by_cases h9 : k = 9223372036854775807
  · have HK := Lib.hid h9
    have C8 := Lib.hid (fun k7 ql7 nl7 cl7 qh7 nh7 ch7 qz7 nz7 cz7 d7 (hdv : d7 = textV F.data.toList) (hSz : (F : ByteArray).size ≤ 1048576) (W : World) (g : Nat) (hgw : g = W.heap.size) (hW : Below w.heap.size w W) (hpv : PV.In W (⟨k7, F, ql7, nl7, cl7, qh7, nh7, ch7, qz7, nz7, cz7, d7⟩)) => (show Calls Tryd.prog 12 #[.agg #[.int .u8 k7, .string F, .slice ql7 nl7 cl7, .slice qh7 nh7 ch7, .slice qz7 nz7 cz7], .slice (some ⟨g, 0, none⟩) 2 2] (W.alloc (.cells #[.string ⟨#[105, 110, 99, 114]⟩, .string ⟨#[107]⟩] 9)) (DoW (textV F.data.toList) (eOver) W) from by subst hgw; exact dow_to (by rw [show PV.d ⟨k7, F, ql7, nl7, cl7, qh7, nh7, ch7, qz7, nz7, cz7, d7⟩ = textV F.data.toList from hdv]; exact doD_over (m := k) (Or.inr rfl) (by rw [HF.out]; exact num_text hk0 hk1) (by omega)) (call2 5 ⟨#[105, 110, 99, 114]⟩ ⟨#[107]⟩ (by decide) (by decide) (by decide) ⟨by decide, by decide⟩ (⟨k7, F, ql7, nl7, cl7, qh7, nh7, ch7, qz7, nz7, cz7, d7⟩) W hpv hSz (HG.out W hW))))
    have tk : (k == 9223372036854775807) = true := by rw [beq_iff_eq]; exact h9
    with_reducible refine (C8.out k7 ql7 nl7 cl7 qh7 nh7 ch7 qz7 nz7 cz7 d7 HD7.out HFS.out w9 _ rfl HB.out HV7.out.pv).mono ?_
    rintro e wa8 ⟨p8, vr8, rfl, hI, hd, hs, hA, hb⟩
    obtain ⟨k8, S8, ql8, nl8, cl8, qh8, nh8, ch8, qz8, nz8, cz8, d8⟩ := p8
    dsimp only [PV.agg]
    obtain ⟨q8, c8, rfl, hv8⟩ := ans_text hA 44 (by decide +kernel) ⟨#[45, 69, 82, 82, 32, 105, 110, 99, 114, 101, 109, 101, 110, 116, 32, 111, 114, 32, 100, 101, 99, 114, 101, 109, 101, 110, 116, 32, 119, 111, 117, 108, 100, 32, 111, 118, 101, 114, 102, 108, 111, 119, 13, 10]⟩ (by decide +kernel)
    obtain rfl : F = S8 := (text_eq hs rfl).symm
    have HI8 := Lib.hid hI
    have HD8 := Lib.hid (show d8 = _ from hd)
    have hbn := hb.trans ((Kit.below1 wa8 (.cells #[.int .u8 k8, .string F, .slice ql8 nl8 cl8, .slice qh8 nh8 ch8, .slice qz8 nz8 cz8] 26)).mono hb.size)
    have HB := Lib.hid (HB.out.trans (hbn.mono HB.out.size))
    have HV5 := Lib.hid (HV5.out.keep hbn)
    have HV7 := Lib.hid (HV7.out.keep hbn)
    have HC2 := Lib.hid (fun W hW => HC2.out W (hbn.trans (Below.mono hW hbn.size)))
    have HC3 := Lib.hid (fun W hW => HC3.out W (hbn.trans (Below.mono hW hbn.size)))
    have HC4 := Lib.hid (fun W hW => HC4.out W (hbn.trans (Below.mono hW hbn.size)))
    have HC5 := Lib.hid (fun W hW => HC5.out W (hbn.trans (Below.mono hW hbn.size)))
    have HC6 := Lib.hid (fun W hW => HC6.out W (hbn.trans (Below.mono hW hbn.size)))
    have HC7 := Lib.hid (fun W hW => HC7.out W (hbn.trans (Below.mono hW hbn.size)))
    have HV8 := Lib.hid (show VB _ wa8.heap.size ⟨k8, F, ql8, nl8, cl8, qh8, nh8, ch8, qz8, nz8, cz8, d8⟩ from VB.new HI8.out)
    have hbx := Kit.below1 wa8 (.cells #[.int .u8 k8, .string F, .slice ql8 nl8 cl8, .slice qh8 nh8 ch8, .slice qz8 nz8 cz8] 26)
    have HC8 := Lib.hid (fun W hW => hv8 W (hbx.trans (Below.mono hW hbx.size)))
    clear hbx
    clear hI hd hs hA hb hbn hv8
    go_upto_region 12 with fail
    generalize hgg : wa8.heap.size = g8 at HV8 ⊢
    clear hgg
    generalize wa8.alloc (.cells #[.int .u8 k8, .string F, .slice ql8 nl8 cl8, .slice qh8 nh8 ch8, .slice qz8 nz8 cz8] 26) = w10 at HB HV8 HV5 HV7 HC2 HC3 HC4 HC5 HC6 HC7 HC8 ⊢
    clear C8
    have hk5 : k5 = 0 := by have h := VIn.ek HV5.out.pv; rw [show k5 = (d5.kind : Int) from h, HD5.out]; rfl
    subst hk5
    have hl5 : ∀ W, Below w10.heap.size w10 W → W.cell? ⟨g5, 0, none⟩ = some (.int .u8 0) := fun W hW => (HV5.out.keep hW).room.c0
    have hl7 : ∀ W, Below w10.heap.size w10 W → W.cell? ⟨g7, 1, none⟩ = some (.string F) := fun W hW => (HV7.out.keep hW).room.c1
    have hl8 : ∀ W, Below w10.heap.size w10 W → W.cell? ⟨g8, 1, none⟩ = some (.string F) := fun W hW => (HV8.out.keep hW).room.c1
    have hv2 := HC2.out
    have hv3 := HC3.out
    have hv4 := HC4.out
    have hv5 := HC5.out
    have hv6 := HC6.out
    have hv7 := HC7.out
    have hv8 := HC8.out
    have A1 := Lib.hid (fun W (h : Below w10.heap.size w10 W) => (show Calls Tryd.prog 14 #[.string Y] W (Said w10 W NBk XBk) from (rbulk Y W (by omega)).mono (fun e w' hh => said_of hh h NBk HNBk.out XBk HXBk.out)))
    have A2 := Lib.hid (fun W (h : Below w10.heap.size w10 W) => (show Calls Tryd.prog 15 #[.int .i64 (Y.size : Int)] W (Said w10 W NI XI) from (rint (Y.size : Int) W (by omega) (by omega)).mono (fun e w' hh => said_of hh h NI HNI.out XI HXI.out)))
    have A3 := Lib.hid (fun W (h : Below w10.heap.size w10 W) => (show Calls Tryd.prog 16 #[] W (Said w10 W 5 ⟨#[36, 45, 49, 13, 10]⟩) from (rnull W).mono (fun e w' hh => said_of hh h 5 (by decide) _ (by decide))))
    have A4 := Lib.hid (fun W (h : Below w10.heap.size w10 W) => (show Calls Tryd.prog 13 #[.int .i64 k] W (Plain w10 W (.string F)) from (CT.out W).mono (fun e w' hh => plain_of hh.1 hh.2 h)))
    clear HI7 HD7 HI8 HD8 HXS HYS HFS HLt HG HGg HI5 HD5 HI2 HD2 HI1 HD1 CT h9
    obtain ⟨e1, e2⟩ := sum_in HYl.out hYz
    refine wp_region_held_drew (S := fun W => Below w10.heap.size w10 W ∧ Below w10.heap.size w10 W) (by kernel_rfl) ?_ (fun hHeld => ?_)
    · exact ⟨(Below.refl _ _).drew, (Below.refl _ _).drew⟩
    refine wpAnyH_take (i := 0) (v := ?_) rfl (by kernel_rfl) (by kernel_rfl) (by kernel_rfl) (fun _ _ _ h => h) (Or.inl ⟨by rfl, ?_⟩) (by assumption) ?_
    rotate_left
    · intro W0 hSw; obtain ⟨hSa, hSb⟩ := hSw; go_simp; all_goals (with_reducible rfl)
    try simp only [Act.put, List.getElem_toArray, List.getElem_cons_zero, List.setIfInBounds_toArray, List.set_cons_zero, List.set_cons_succ]
    refine wpAnyH_take (i := 1) (v := ?_) rfl (by kernel_rfl) (by kernel_rfl) (by kernel_rfl) (fun _ _ _ h => h) (Or.inl ⟨by rfl, ?_⟩) (by assumption) ?_
    rotate_left
    · intro W0 hSw; obtain ⟨hSa, hSb⟩ := hSw; go_simp; all_goals (with_reducible rfl)
    try simp only [Act.put, List.getElem_toArray, List.getElem_cons_succ, List.getElem_cons_zero, List.setIfInBounds_toArray, List.set_cons_zero, List.set_cons_succ]
    refine wpAnyH_take (i := 2) (v := ?_) rfl (by kernel_rfl) (by kernel_rfl) (by kernel_rfl) (fun _ _ _ h => h) (Or.inl ⟨by rfl, ?_⟩) (by assumption) ?_
    rotate_left
    · intro W0 hSw; obtain ⟨hSa, hSb⟩ := hSw; go_simp; all_goals (with_reducible rfl)
    try simp only [Act.put, List.getElem_toArray, List.getElem_cons_succ, List.getElem_cons_zero, List.setIfInBounds_toArray, List.set_cons_zero, List.set_cons_succ]
    refine wpAnyH_take (i := 3) (v := ?_) rfl (by kernel_rfl) (by kernel_rfl) (by kernel_rfl) (fun _ _ _ h => h) (Or.inl ⟨by rfl, ?_⟩) (by assumption) ?_
    rotate_left
    · intro W0 hSw; obtain ⟨hSa, hSb⟩ := hSw; go_simp; all_goals (with_reducible rfl)
    try simp only [Act.put, List.getElem_toArray, List.getElem_cons_succ, List.getElem_cons_zero, List.setIfInBounds_toArray, List.set_cons_zero, List.set_cons_succ]
    refine wpAnyH_take (i := 4) (v := ?_) rfl (by kernel_rfl) (by kernel_rfl) (by kernel_rfl) (fun _ _ _ h => h) (Or.inl ⟨by rfl, ?_⟩) (by assumption) ?_
    rotate_left
    · intro W0 hSw; obtain ⟨hSa, hSb⟩ := hSw; go_simp; all_goals (with_reducible rfl)
    try simp only [Act.put, List.getElem_toArray, List.getElem_cons_succ, List.getElem_cons_zero, List.setIfInBounds_toArray, List.set_cons_zero, List.set_cons_succ]
    refine wpAnyH_ready (rs := [5]) (by kernel_rfl) (by simp) ?_
    refine AllReadyH.cons rfl (fun K hK => ?_) AllReadyH.nil
    go_simp
    go_wp2_with (go_at_call 14; (refine (A1.out _ hHeld.1).mono ?_); rintro e wA0 ⟨pwA0, cwA0, rfl, vwA0, bwA0, ywA0, zwA0⟩)
    have hC := hHeld.2.trans (ywA0.mono hHeld.2.size)
    refine hK.out _ _ ?_ (fun hHeld2 => ?_)
    · exact ⟨bwA0, hC⟩
    clear hK K hHeld hHeld2
    have hHeld : Below w10.heap.size w10 wA0 ∧ Below wA0.heap.size wA0 wA0 := ⟨bwA0, zwA0⟩
    refine held_mono (S' := fun W => Below w10.heap.size w10 W ∧ Below wA0.heap.size wA0 W) (fun W hW => ⟨hW.1, hC.trans (hW.2.mono hC.size)⟩) _ _ _ _ ?_
    clear hC
    refine wpAnyH_take (i := 6) (v := ?_) rfl (by kernel_rfl) (by kernel_rfl) (by kernel_rfl) (fun _ _ _ h => h) (Or.inl ⟨by rfl, ?_⟩) (by assumption) ?_
    rotate_left
    · intro W0 hSw; obtain ⟨hSa, hSb⟩ := hSw; go_simp; all_goals (with_reducible rfl)
    try simp only [Act.put, List.getElem_toArray, List.getElem_cons_succ, List.getElem_cons_zero, List.setIfInBounds_toArray, List.set_cons_zero, List.set_cons_succ]
    refine wpAnyH_take (i := 7) (v := ?_) rfl (by kernel_rfl) (by kernel_rfl) (by kernel_rfl) (fun _ _ _ h => h) (Or.inl ⟨by rfl, ?_⟩) (by assumption) ?_
    rotate_left
    · intro W0 hSw; obtain ⟨hSa, hSb⟩ := hSw; go_simp; all_goals (with_reducible rfl)
    try simp only [Act.put, List.getElem_toArray, List.getElem_cons_succ, List.getElem_cons_zero, List.setIfInBounds_toArray, List.set_cons_zero, List.set_cons_succ]
    refine wpAnyH_take (i := 8) (v := ?_) rfl (by kernel_rfl) (by kernel_rfl) (by kernel_rfl) (fun _ _ _ h => h) (Or.inl ⟨by rfl, ?_⟩) (by assumption) ?_
    rotate_left
    · intro W0 hSw; obtain ⟨hSa, hSb⟩ := hSw; go_simp; all_goals (with_reducible rfl)
    try simp only [Act.put, List.getElem_toArray, List.getElem_cons_succ, List.getElem_cons_zero, List.setIfInBounds_toArray, List.set_cons_zero, List.set_cons_succ]
    refine wpAnyH_take (i := 9) (v := ?_) rfl (by kernel_rfl) (by kernel_rfl) (by kernel_rfl) (fun _ _ _ h => h) (Or.inl ⟨by rfl, ?_⟩) (by assumption) ?_
    rotate_left
    · intro W0 hSw; obtain ⟨hSa, hSb⟩ := hSw; go_simp; all_goals (with_reducible rfl)
    try simp only [Act.put, List.getElem_toArray, List.getElem_cons_succ, List.getElem_cons_zero, List.setIfInBounds_toArray, List.set_cons_zero, List.set_cons_succ]
    refine wpAnyH_take (i := 10) (v := ?_) rfl (by kernel_rfl) (by kernel_rfl) (by kernel_rfl) (fun _ _ _ h => h) (Or.inl ⟨by rfl, ?_⟩) (by assumption) ?_
    rotate_left
    · intro W0 hSw; obtain ⟨hSa, hSb⟩ := hSw; go_simp; all_goals (with_reducible rfl)
    try simp only [Act.put, List.getElem_toArray, List.getElem_cons_succ, List.getElem_cons_zero, List.setIfInBounds_toArray, List.set_cons_zero, List.set_cons_succ]
    refine wpAnyH_take (i := 11) (v := ?_) rfl (by kernel_rfl) (by kernel_rfl) (by kernel_rfl) (fun _ _ _ h => h) (Or.inl ⟨by rfl, ?_⟩) (by assumption) ?_
    rotate_left
    · intro W0 hSw; obtain ⟨hSa, hSb⟩ := hSw; go_simp; all_goals (with_reducible rfl)
    try simp only [Act.put, List.getElem_toArray, List.getElem_cons_succ, List.getElem_cons_zero, List.setIfInBounds_toArray, List.set_cons_zero, List.set_cons_succ]
    refine wpAnyH_take (i := 12) (v := ?_) rfl (by kernel_rfl) (by kernel_rfl) (by kernel_rfl) (fun _ _ _ h => h) (Or.inl ⟨by rfl, ?_⟩) (by assumption) ?_
    rotate_left
    · intro W0 hSw; obtain ⟨hSa, hSb⟩ := hSw; go_simp; all_goals (with_reducible rfl)
    try simp only [Act.put, List.getElem_toArray, List.getElem_cons_succ, List.getElem_cons_zero, List.setIfInBounds_toArray, List.set_cons_zero, List.set_cons_succ]
    refine wpAnyH_take (i := 13) (v := ?_) rfl (by kernel_rfl) (by kernel_rfl) (by kernel_rfl) (fun _ _ _ h => h) (Or.inl ⟨by rfl, ?_⟩) (by assumption) ?_
    rotate_left
    · intro W0 hSw; obtain ⟨hSa, hSb⟩ := hSw; go_simp; all_goals (with_reducible rfl)
    try simp only [Act.put, List.getElem_toArray, List.getElem_cons_succ, List.getElem_cons_zero, List.setIfInBounds_toArray, List.set_cons_zero, List.set_cons_succ]
    refine wpAnyH_take (i := 14) (v := ?_) rfl (by kernel_rfl) (by kernel_rfl) (by kernel_rfl) (fun _ _ _ h => h) (Or.inl ⟨by rfl, ?_⟩) (by assumption) ?_
    rotate_left
    · intro W0 hSw; obtain ⟨hSa, hSb⟩ := hSw; go_simp; all_goals (with_reducible rfl)
    try simp only [Act.put, List.getElem_toArray, List.getElem_cons_succ, List.getElem_cons_zero, List.setIfInBounds_toArray, List.set_cons_zero, List.set_cons_succ]
    refine wpAnyH_take (i := 15) (v := ?_) rfl (by kernel_rfl) (by kernel_rfl) (by kernel_rfl) (fun _ _ _ h => h) (Or.inl ⟨by rfl, ?_⟩) (by assumption) ?_
    rotate_left
    · intro W0 hSw; obtain ⟨hSa, hSb⟩ := hSw; go_simp; all_goals (with_reducible rfl)
    try simp only [Act.put, List.getElem_toArray, List.getElem_cons_succ, List.getElem_cons_zero, List.setIfInBounds_toArray, List.set_cons_zero, List.set_cons_succ]
    refine wpAnyH_take (i := 16) (v := ?_) rfl (by kernel_rfl) (by kernel_rfl) (by kernel_rfl) (fun _ _ _ h => h) (Or.inl ⟨by rfl, ?_⟩) (by assumption) ?_
    rotate_left
    · intro W0 hSw; obtain ⟨hSa, hSb⟩ := hSw; go_simp; all_goals (with_reducible rfl)
    try simp only [Act.put, List.getElem_toArray, List.getElem_cons_succ, List.getElem_cons_zero, List.setIfInBounds_toArray, List.set_cons_zero, List.set_cons_succ]
    refine wpAnyH_take (i := 17) (v := ?_) rfl (by kernel_rfl) (by kernel_rfl) (by kernel_rfl) (fun _ _ _ h => h) (Or.inl ⟨by rfl, ?_⟩) (by assumption) ?_
    rotate_left
    · intro W0 hSw; obtain ⟨hSa, hSb⟩ := hSw; go_simp; all_goals (with_reducible rfl)
    try simp only [Act.put, List.getElem_toArray, List.getElem_cons_succ, List.getElem_cons_zero, List.setIfInBounds_toArray, List.set_cons_zero, List.set_cons_succ]
    refine wpAnyH_take (i := 18) (v := ?_) rfl (by kernel_rfl) (by kernel_rfl) (by kernel_rfl) (fun _ _ _ h => h) (Or.inl ⟨by rfl, ?_⟩) (by assumption) ?_
    rotate_left
    · intro W0 hSw; obtain ⟨hSa, hSb⟩ := hSw; go_simp; all_goals (with_reducible rfl)
    try simp only [Act.put, List.getElem_toArray, List.getElem_cons_succ, List.getElem_cons_zero, List.setIfInBounds_toArray, List.set_cons_zero, List.set_cons_succ]
    refine wpAnyH_take (i := 19) (v := ?_) rfl (by kernel_rfl) (by kernel_rfl) (by kernel_rfl) (fun _ _ _ h => h) (Or.inl ⟨by rfl, ?_⟩) (by assumption) ?_
    rotate_left
    · intro W0 hSw; obtain ⟨hSa, hSb⟩ := hSw; go_simp; all_goals (with_reducible rfl)
    try simp only [Act.put, List.getElem_toArray, List.getElem_cons_succ, List.getElem_cons_zero, List.setIfInBounds_toArray, List.set_cons_zero, List.set_cons_succ]
    refine wpAnyH_take (i := 20) (v := ?_) rfl (by kernel_rfl) (by kernel_rfl) (by kernel_rfl) (fun _ _ _ h => h) (Or.inl ⟨by rfl, ?_⟩) (by assumption) ?_
    rotate_left
    · intro W0 hSw; obtain ⟨hSa, hSb⟩ := hSw; go_simp; all_goals (with_reducible rfl)
    try simp only [Act.put, List.getElem_toArray, List.getElem_cons_succ, List.getElem_cons_zero, List.setIfInBounds_toArray, List.set_cons_zero, List.set_cons_succ]
    refine wpAnyH_take (i := 21) (v := ?_) rfl (by kernel_rfl) (by kernel_rfl) (by kernel_rfl) (fun _ _ _ h => h) (Or.inl ⟨by rfl, ?_⟩) (by assumption) ?_
    rotate_left
    · intro W0 hSw; obtain ⟨hSa, hSb⟩ := hSw; go_simp; all_goals (with_reducible rfl)
    try simp only [Act.put, List.getElem_toArray, List.getElem_cons_succ, List.getElem_cons_zero, List.setIfInBounds_toArray, List.set_cons_zero, List.set_cons_succ]
    refine wpAnyH_take (i := 22) (v := ?_) rfl (by kernel_rfl) (by kernel_rfl) (by kernel_rfl) (fun _ _ _ h => h) (Or.inl ⟨by rfl, ?_⟩) (by assumption) ?_
    rotate_left
    · intro W0 hSw; obtain ⟨hSa, hSb⟩ := hSw; go_simp; all_goals (with_reducible rfl)
    try simp only [Act.put, List.getElem_toArray, List.getElem_cons_succ, List.getElem_cons_zero, List.setIfInBounds_toArray, List.set_cons_zero, List.set_cons_succ]
    refine wpAnyH_take (i := 23) (v := ?_) rfl (by kernel_rfl) (by kernel_rfl) (by kernel_rfl) (fun _ _ _ h => h) (Or.inl ⟨by rfl, ?_⟩) (by assumption) ?_
    rotate_left
    · intro W0 hSw; obtain ⟨hSa, hSb⟩ := hSw; go_simp; all_goals (with_reducible rfl)
    try simp only [Act.put, List.getElem_toArray, List.getElem_cons_succ, List.getElem_cons_zero, List.setIfInBounds_toArray, List.set_cons_zero, List.set_cons_succ]
    refine wpAnyH_take (i := 24) (v := ?_) rfl (by kernel_rfl) (by kernel_rfl) (by kernel_rfl) (fun _ _ _ h => h) (Or.inl ⟨by rfl, ?_⟩) (by assumption) ?_
    rotate_left
    · intro W0 hSw; obtain ⟨hSa, hSb⟩ := hSw; go_simp; all_goals (with_reducible rfl)
    try simp only [Act.put, List.getElem_toArray, List.getElem_cons_succ, List.getElem_cons_zero, List.setIfInBounds_toArray, List.set_cons_zero, List.set_cons_succ]
    refine wpAnyH_take (i := 25) (v := ?_) rfl (by kernel_rfl) (by kernel_rfl) (by kernel_rfl) (fun _ _ _ h => h) (Or.inl ⟨by rfl, ?_⟩) (by assumption) ?_
    rotate_left
    · intro W0 hSw; obtain ⟨hSa, hSb⟩ := hSw; go_simp; all_goals (with_reducible rfl)
    try simp only [Act.put, List.getElem_toArray, List.getElem_cons_succ, List.getElem_cons_zero, List.setIfInBounds_toArray, List.set_cons_zero, List.set_cons_succ]
    refine wpAnyH_take (i := 26) (v := ?_) rfl (by kernel_rfl) (by kernel_rfl) (by kernel_rfl) (fun _ _ _ h => h) (Or.inl ⟨by rfl, ?_⟩) (by assumption) ?_
    rotate_left
    · intro W0 hSw; obtain ⟨hSa, hSb⟩ := hSw; go_simp; all_goals (with_reducible rfl)
    try simp only [Act.put, List.getElem_toArray, List.getElem_cons_succ, List.getElem_cons_zero, List.setIfInBounds_toArray, List.set_cons_zero, List.set_cons_succ]
    refine wpAnyH_take (i := 27) (v := ?_) rfl (by kernel_rfl) (by kernel_rfl) (by kernel_rfl) (fun _ _ _ h => h) (Or.inl ⟨by rfl, ?_⟩) (by assumption) ?_
    rotate_left
    · intro W0 hSw; obtain ⟨hSa, hSb⟩ := hSw; go_simp; all_goals (with_reducible rfl)
    try simp only [Act.put, List.getElem_toArray, List.getElem_cons_succ, List.getElem_cons_zero, List.setIfInBounds_toArray, List.set_cons_zero, List.set_cons_succ]
    refine wpAnyH_take (i := 28) (v := ?_) rfl (by kernel_rfl) (by kernel_rfl) (by kernel_rfl) (fun _ _ _ h => h) (Or.inl ⟨by rfl, ?_⟩) (by assumption) ?_
    rotate_left
    · intro W0 hSw; obtain ⟨hSa, hSb⟩ := hSw; go_simp; all_goals (with_reducible rfl)
    try simp only [Act.put, List.getElem_toArray, List.getElem_cons_succ, List.getElem_cons_zero, List.setIfInBounds_toArray, List.set_cons_zero, List.set_cons_succ]
    refine wpAnyH_take (i := 29) (v := ?_) rfl (by kernel_rfl) (by kernel_rfl) (by kernel_rfl) (fun _ _ _ h => h) (Or.inl ⟨by rfl, ?_⟩) (by assumption) ?_
    rotate_left
    · intro W0 hSw; obtain ⟨hSa, hSb⟩ := hSw; go_simp; all_goals (with_reducible rfl)
    try simp only [Act.put, List.getElem_toArray, List.getElem_cons_succ, List.getElem_cons_zero, List.setIfInBounds_toArray, List.set_cons_zero, List.set_cons_succ]
    refine wpAnyH_ready (rs := [30]) (by kernel_rfl) (by simp) ?_
    refine AllReadyH.cons rfl (fun K hK => ?_) AllReadyH.nil
    go_simp
    go_wp2_with (go_at_call 15; (refine (A2.out _ hHeld.1).mono ?_); rintro e wA1 ⟨pwA1, cwA1, rfl, vwA1, bwA1, ywA1, zwA1⟩)
    have hC := hHeld.2.trans (ywA1.mono hHeld.2.size)
    refine hK.out _ _ ?_ (fun hHeld2 => ?_)
    · exact ⟨bwA1, hC⟩
    clear hK K hHeld hHeld2
    have hHeld : Below w10.heap.size w10 wA1 ∧ Below wA1.heap.size wA1 wA1 := ⟨bwA1, zwA1⟩
    refine held_mono (S' := fun W => Below w10.heap.size w10 W ∧ Below wA1.heap.size wA1 W) (fun W hW => ⟨hW.1, hC.trans (hW.2.mono hC.size)⟩) _ _ _ _ ?_
    clear hC
    refine wpAnyH_take (i := 31) (v := ?_) rfl (by kernel_rfl) (by kernel_rfl) (by kernel_rfl) (fun _ _ _ h => h) (Or.inl ⟨by rfl, ?_⟩) (by assumption) ?_
    rotate_left
    · intro W0 hSw; obtain ⟨hSa, hSb⟩ := hSw; go_simp; all_goals (with_reducible rfl)
    try simp only [Act.put, List.getElem_toArray, List.getElem_cons_succ, List.getElem_cons_zero, List.setIfInBounds_toArray, List.set_cons_zero, List.set_cons_succ]
    refine wpAnyH_take (i := 32) (v := ?_) rfl (by kernel_rfl) (by kernel_rfl) (by kernel_rfl) (fun _ _ _ h => h) (Or.inl ⟨by rfl, ?_⟩) (by assumption) ?_
    rotate_left
    · intro W0 hSw; obtain ⟨hSa, hSb⟩ := hSw; go_simp; all_goals (with_reducible rfl)
    try simp only [Act.put, List.getElem_toArray, List.getElem_cons_succ, List.getElem_cons_zero, List.setIfInBounds_toArray, List.set_cons_zero, List.set_cons_succ]
    refine wpAnyH_take (i := 33) (v := ?_) rfl (by kernel_rfl) (by kernel_rfl) (by kernel_rfl) (fun _ _ _ h => h) (Or.inl ⟨by rfl, ?_⟩) (by assumption) ?_
    rotate_left
    · intro W0 hSw; obtain ⟨hSa, hSb⟩ := hSw; go_simp; all_goals (with_reducible rfl)
    try simp only [Act.put, List.getElem_toArray, List.getElem_cons_succ, List.getElem_cons_zero, List.setIfInBounds_toArray, List.set_cons_zero, List.set_cons_succ]
    refine wpAnyH_take (i := 34) (v := ?_) rfl (by kernel_rfl) (by kernel_rfl) (by kernel_rfl) (fun _ _ _ h => h) (Or.inl ⟨by rfl, ?_⟩) (by assumption) ?_
    rotate_left
    · intro W0 hSw; obtain ⟨hSa, hSb⟩ := hSw; go_simp; all_goals (with_reducible rfl)
    try simp only [Act.put, List.getElem_toArray, List.getElem_cons_succ, List.getElem_cons_zero, List.setIfInBounds_toArray, List.set_cons_zero, List.set_cons_succ]
    refine wpAnyH_take (i := 35) (v := ?_) rfl (by kernel_rfl) (by kernel_rfl) (by kernel_rfl) (fun _ _ _ h => h) (Or.inl ⟨by rfl, ?_⟩) (by assumption) ?_
    rotate_left
    · intro W0 hSw; obtain ⟨hSa, hSb⟩ := hSw; go_simp; all_goals (with_reducible rfl)
    try simp only [Act.put, List.getElem_toArray, List.getElem_cons_succ, List.getElem_cons_zero, List.setIfInBounds_toArray, List.set_cons_zero, List.set_cons_succ]
    refine wpAnyH_take (i := 36) (v := ?_) rfl (by kernel_rfl) (by kernel_rfl) (by kernel_rfl) (fun _ _ _ h => h) (Or.inl ⟨by rfl, ?_⟩) (by assumption) ?_
    rotate_left
    · intro W0 hSw; obtain ⟨hSa, hSb⟩ := hSw; go_simp; all_goals (with_reducible rfl)
    try simp only [Act.put, List.getElem_toArray, List.getElem_cons_succ, List.getElem_cons_zero, List.setIfInBounds_toArray, List.set_cons_zero, List.set_cons_succ]
    refine wpAnyH_ready (rs := [37]) (by kernel_rfl) (by simp) ?_
    refine AllReadyH.cons rfl (fun K hK => ?_) AllReadyH.nil
    go_simp
    go_wp2_with (go_at_call 16; (refine (A3.out _ hHeld.1).mono ?_); rintro e wA2 ⟨pwA2, cwA2, rfl, vwA2, bwA2, ywA2, zwA2⟩)
    have hC := hHeld.2.trans (ywA2.mono hHeld.2.size)
    refine hK.out _ _ ?_ (fun hHeld2 => ?_)
    · exact ⟨bwA2, hC⟩
    clear hK K hHeld hHeld2
    have hHeld : Below w10.heap.size w10 wA2 ∧ Below wA2.heap.size wA2 wA2 := ⟨bwA2, zwA2⟩
    refine held_mono (S' := fun W => Below w10.heap.size w10 W ∧ Below wA2.heap.size wA2 W) (fun W hW => ⟨hW.1, hC.trans (hW.2.mono hC.size)⟩) _ _ _ _ ?_
    clear hC
    refine wpAnyH_take (i := 38) (v := ?_) rfl (by kernel_rfl) (by kernel_rfl) (by kernel_rfl) (fun _ _ _ h => h) (Or.inl ⟨by rfl, ?_⟩) (by assumption) ?_
    rotate_left
    · intro W0 hSw; obtain ⟨hSa, hSb⟩ := hSw; go_simp; all_goals (with_reducible rfl)
    try simp only [Act.put, List.getElem_toArray, List.getElem_cons_succ, List.getElem_cons_zero, List.setIfInBounds_toArray, List.set_cons_zero, List.set_cons_succ]
    refine wpAnyH_take (i := 39) (v := ?_) rfl (by kernel_rfl) (by kernel_rfl) (by kernel_rfl) (fun _ _ _ h => h) (Or.inl ⟨by rfl, ?_⟩) (by assumption) ?_
    rotate_left
    · intro W0 hSw; obtain ⟨hSa, hSb⟩ := hSw; go_simp; all_goals (with_reducible rfl)
    try simp only [Act.put, List.getElem_toArray, List.getElem_cons_succ, List.getElem_cons_zero, List.setIfInBounds_toArray, List.set_cons_zero, List.set_cons_succ]
    refine wpAnyH_take (i := 40) (v := ?_) rfl (by kernel_rfl) (by kernel_rfl) (by kernel_rfl) (fun _ _ _ h => h) (Or.inl ⟨by rfl, ?_⟩) (by assumption) ?_
    rotate_left
    · intro W0 hSw; obtain ⟨hSa, hSb⟩ := hSw; go_simp; all_goals (with_reducible rfl)
    try simp only [Act.put, List.getElem_toArray, List.getElem_cons_succ, List.getElem_cons_zero, List.setIfInBounds_toArray, List.set_cons_zero, List.set_cons_succ]
    refine wpAnyH_take (i := 41) (v := ?_) rfl (by kernel_rfl) (by kernel_rfl) (by kernel_rfl) (fun _ _ _ h => h) (Or.inl ⟨by rfl, ?_⟩) (by assumption) ?_
    rotate_left
    · intro W0 hSw; obtain ⟨hSa, hSb⟩ := hSw; go_simp; all_goals (with_reducible rfl)
    try simp only [Act.put, List.getElem_toArray, List.getElem_cons_succ, List.getElem_cons_zero, List.setIfInBounds_toArray, List.set_cons_zero, List.set_cons_succ]
    refine wpAnyH_take (i := 42) (v := ?_) rfl (by kernel_rfl) (by kernel_rfl) (by kernel_rfl) (fun _ _ _ h => h) (Or.inl ⟨by rfl, ?_⟩) (by assumption) ?_
    rotate_left
    · intro W0 hSw; obtain ⟨hSa, hSb⟩ := hSw; go_simp; all_goals (with_reducible rfl)
    try simp only [Act.put, List.getElem_toArray, List.getElem_cons_succ, List.getElem_cons_zero, List.setIfInBounds_toArray, List.set_cons_zero, List.set_cons_succ]
    refine wpAnyH_take (i := 43) (v := ?_) rfl (by kernel_rfl) (by kernel_rfl) (by kernel_rfl) (fun _ _ _ h => h) (Or.inl ⟨by rfl, ?_⟩) (by assumption) ?_
    rotate_left
    · intro W0 hSw; obtain ⟨hSa, hSb⟩ := hSw; go_simp; all_goals (with_reducible rfl)
    try simp only [Act.put, List.getElem_toArray, List.getElem_cons_succ, List.getElem_cons_zero, List.setIfInBounds_toArray, List.set_cons_zero, List.set_cons_succ]
    refine wpAnyH_take (i := 44) (v := ?_) rfl (by kernel_rfl) (by kernel_rfl) (by kernel_rfl) (fun _ _ _ h => h) (Or.inl ⟨by rfl, ?_⟩) (by assumption) ?_
    rotate_left
    · intro W0 hSw; obtain ⟨hSa, hSb⟩ := hSw; go_simp; all_goals (with_reducible rfl)
    try simp only [Act.put, List.getElem_toArray, List.getElem_cons_succ, List.getElem_cons_zero, List.setIfInBounds_toArray, List.set_cons_zero, List.set_cons_succ]
    refine wpAnyH_take (i := 45) (v := ?_) rfl (by kernel_rfl) (by kernel_rfl) (by kernel_rfl) (fun _ _ _ h => h) (Or.inl ⟨by rfl, ?_⟩) (by assumption) ?_
    rotate_left
    · intro W0 hSw; obtain ⟨hSa, hSb⟩ := hSw; go_simp; all_goals (with_reducible rfl)
    try simp only [Act.put, List.getElem_toArray, List.getElem_cons_succ, List.getElem_cons_zero, List.setIfInBounds_toArray, List.set_cons_zero, List.set_cons_succ]
    refine wpAnyH_done (by kernel_rfl) ?_ _
    have HBb := Lib.hid (hHeld.1)
    go_upto_region 15 with fail
    refine wp_region_held_drew (S := fun W => Below w10.heap.size w10 W ∧ Below w10.heap.size w10 W) (by kernel_rfl) ?_ (fun hHeld => ?_)
    · exact ⟨HBb.out.drew, HBb.out.drew⟩
    refine wpAnyH_take (i := 0) (v := ?_) rfl (by kernel_rfl) (by kernel_rfl) (by kernel_rfl) (fun _ _ _ h => h) (Or.inl ⟨by rfl, ?_⟩) (by assumption) ?_
    rotate_left
    · intro W0 hSw; obtain ⟨hSa, hSb⟩ := hSw; go_simp; all_goals (with_reducible rfl)
    try simp only [Act.put, List.getElem_toArray, List.getElem_cons_zero, List.setIfInBounds_toArray, List.set_cons_zero, List.set_cons_succ]
    refine wpAnyH_take (i := 1) (v := ?_) rfl (by kernel_rfl) (by kernel_rfl) (by kernel_rfl) (fun _ _ _ h => h) (Or.inl ⟨by rfl, ?_⟩) (by assumption) ?_
    rotate_left
    · intro W0 hSw; obtain ⟨hSa, hSb⟩ := hSw; go_simp; all_goals (with_reducible rfl)
    try simp only [Act.put, List.getElem_toArray, List.getElem_cons_succ, List.getElem_cons_zero, List.setIfInBounds_toArray, List.set_cons_zero, List.set_cons_succ]
    refine wpAnyH_take (i := 2) (v := ?_) rfl (by kernel_rfl) (by kernel_rfl) (by kernel_rfl) (fun _ _ _ h => h) (Or.inl ⟨by rfl, ?_⟩) (by assumption) ?_
    rotate_left
    · intro W0 hSw; obtain ⟨hSa, hSb⟩ := hSw; go_simp; all_goals (with_reducible rfl)
    try simp only [Act.put, List.getElem_toArray, List.getElem_cons_succ, List.getElem_cons_zero, List.setIfInBounds_toArray, List.set_cons_zero, List.set_cons_succ]
    refine wpAnyH_take (i := 3) (v := ?_) rfl (by kernel_rfl) (by kernel_rfl) (by kernel_rfl) (fun _ _ _ h => h) (Or.inl ⟨by rfl, ?_⟩) (by assumption) ?_
    rotate_left
    · intro W0 hSw; obtain ⟨hSa, hSb⟩ := hSw; go_simp; all_goals (with_reducible rfl)
    try simp only [Act.put, List.getElem_toArray, List.getElem_cons_succ, List.getElem_cons_zero, List.setIfInBounds_toArray, List.set_cons_zero, List.set_cons_succ]
    refine wpAnyH_take (i := 4) (v := ?_) rfl (by kernel_rfl) (by kernel_rfl) (by kernel_rfl) (fun _ _ _ h => h) (Or.inl ⟨by rfl, ?_⟩) (by assumption) ?_
    rotate_left
    · intro W0 hSw; obtain ⟨hSa, hSb⟩ := hSw; go_simp; all_goals (with_reducible rfl)
    try simp only [Act.put, List.getElem_toArray, List.getElem_cons_succ, List.getElem_cons_zero, List.setIfInBounds_toArray, List.set_cons_zero, List.set_cons_succ]
    refine wpAnyH_ready (rs := [5]) (by kernel_rfl) (by simp) ?_
    refine AllReadyH.cons rfl (fun K hK => ?_) AllReadyH.nil
    go_simp
    go_wp2_with (go_at_call 13; (refine (A4.out _ hHeld.1).mono ?_); rintro e wB0 ⟨rfl, bwB0, ywB0, zwB0⟩)
    have hC := hHeld.2.trans (ywB0.mono hHeld.2.size)
    refine hK.out _ _ ?_ (fun hHeld2 => ?_)
    · exact ⟨bwB0, hC⟩
    clear hK K hHeld hHeld2
    have hHeld : Below w10.heap.size w10 wB0 ∧ Below wB0.heap.size wB0 wB0 := ⟨bwB0, zwB0⟩
    refine held_mono (S' := fun W => Below w10.heap.size w10 W ∧ Below wB0.heap.size wB0 W) (fun W hW => ⟨hW.1, hC.trans (hW.2.mono hC.size)⟩) _ _ _ _ ?_
    clear hC
    refine wpAnyH_take (i := 6) (v := ?_) rfl (by kernel_rfl) (by kernel_rfl) (by kernel_rfl) (fun _ _ _ h => h) (Or.inl ⟨by rfl, ?_⟩) (by assumption) ?_
    rotate_left
    · intro W0 hSw; obtain ⟨hSa, hSb⟩ := hSw; go_simp; all_goals (with_reducible rfl)
    try simp only [Act.put, List.getElem_toArray, List.getElem_cons_succ, List.getElem_cons_zero, List.setIfInBounds_toArray, List.set_cons_zero, List.set_cons_succ]
    refine wpAnyH_take (i := 7) (v := ?_) rfl (by kernel_rfl) (by kernel_rfl) (by kernel_rfl) (fun _ _ _ h => h) (Or.inl ⟨by rfl, ?_⟩) (by assumption) ?_
    rotate_left
    · intro W0 hSw; obtain ⟨hSa, hSb⟩ := hSw; go_simp; all_goals (with_reducible rfl)
    try simp only [Act.put, List.getElem_toArray, List.getElem_cons_succ, List.getElem_cons_zero, List.setIfInBounds_toArray, List.set_cons_zero, List.set_cons_succ]
    refine wpAnyH_take (i := 8) (v := ?_) rfl (by kernel_rfl) (by kernel_rfl) (by kernel_rfl) (fun _ _ _ h => h) (Or.inl ⟨by rfl, ?_⟩) (by assumption) ?_
    rotate_left
    · intro W0 hSw; obtain ⟨hSa, hSb⟩ := hSw; go_simp; all_goals (with_reducible rfl)
    try simp only [Act.put, List.getElem_toArray, List.getElem_cons_succ, List.getElem_cons_zero, List.setIfInBounds_toArray, List.set_cons_zero, List.set_cons_succ]
    refine wpAnyH_take (i := 9) (v := ?_) rfl (by kernel_rfl) (by kernel_rfl) (by kernel_rfl) (fun _ _ _ h => h) (Or.inl ⟨by rfl, ?_⟩) (by assumption) ?_
    rotate_left
    · intro W0 hSw; obtain ⟨hSa, hSb⟩ := hSw; go_simp; all_goals (with_reducible rfl)
    try simp only [Act.put, List.getElem_toArray, List.getElem_cons_succ, List.getElem_cons_zero, List.setIfInBounds_toArray, List.set_cons_zero, List.set_cons_succ]
    refine wpAnyH_take (i := 10) (v := ?_) rfl (by kernel_rfl) (by kernel_rfl) (by kernel_rfl) (fun _ _ _ h => h) (Or.inl ⟨by rfl, ?_⟩) (by assumption) ?_
    rotate_left
    · intro W0 hSw; obtain ⟨hSa, hSb⟩ := hSw; go_simp; all_goals (with_reducible rfl)
    try simp only [Act.put, List.getElem_toArray, List.getElem_cons_succ, List.getElem_cons_zero, List.setIfInBounds_toArray, List.set_cons_zero, List.set_cons_succ]
    refine wpAnyH_take (i := 11) (v := ?_) rfl (by kernel_rfl) (by kernel_rfl) (by kernel_rfl) (fun _ _ _ h => h) (Or.inl ⟨by rfl, ?_⟩) (by assumption) ?_
    rotate_left
    · intro W0 hSw; obtain ⟨hSa, hSb⟩ := hSw; go_simp; all_goals (with_reducible rfl)
    try simp only [Act.put, List.getElem_toArray, List.getElem_cons_succ, List.getElem_cons_zero, List.setIfInBounds_toArray, List.set_cons_zero, List.set_cons_succ]
    refine wpAnyH_take (i := 12) (v := ?_) rfl (by kernel_rfl) (by kernel_rfl) (by kernel_rfl) (fun _ _ _ h => h) (Or.inl ⟨by rfl, ?_⟩) (by assumption) ?_
    rotate_left
    · intro W0 hSw; obtain ⟨hSa, hSb⟩ := hSw; go_simp; all_goals (with_reducible rfl)
    try simp only [Act.put, List.getElem_toArray, List.getElem_cons_succ, List.getElem_cons_zero, List.setIfInBounds_toArray, List.set_cons_zero, List.set_cons_succ]
    refine wpAnyH_take (i := 13) (v := ?_) rfl (by kernel_rfl) (by kernel_rfl) (by kernel_rfl) (fun _ _ _ h => h) (Or.inl ⟨by rfl, ?_⟩) (by assumption) ?_
    rotate_left
    · intro W0 hSw; obtain ⟨hSa, hSb⟩ := hSw; go_simp; all_goals (with_reducible rfl)
    try simp only [Act.put, List.getElem_toArray, List.getElem_cons_succ, List.getElem_cons_zero, List.setIfInBounds_toArray, List.set_cons_zero, List.set_cons_succ]
    refine wpAnyH_take (i := 14) (v := ?_) rfl (by kernel_rfl) (by kernel_rfl) (by kernel_rfl) (fun _ _ _ h => h) (Or.inl ⟨by rfl, ?_⟩) (by assumption) ?_
    rotate_left
    · intro W0 hSw; obtain ⟨hSa, hSb⟩ := hSw; go_simp; all_goals (with_reducible rfl)
    try simp only [Act.put, List.getElem_toArray, List.getElem_cons_succ, List.getElem_cons_zero, List.setIfInBounds_toArray, List.set_cons_zero, List.set_cons_succ]
    refine wpAnyH_take (i := 15) (v := ?_) rfl (by kernel_rfl) (by kernel_rfl) (by kernel_rfl) (fun _ _ _ h => h) (Or.inl ⟨by rfl, ?_⟩) (by assumption) ?_
    rotate_left
    · intro W0 hSw; obtain ⟨hSa, hSb⟩ := hSw; go_simp; all_goals (with_reducible rfl)
    try simp only [Act.put, List.getElem_toArray, List.getElem_cons_succ, List.getElem_cons_zero, List.setIfInBounds_toArray, List.set_cons_zero, List.set_cons_succ]
    refine wpAnyH_take (i := 16) (v := ?_) rfl (by kernel_rfl) (by kernel_rfl) (by kernel_rfl) (fun _ _ _ h => h) (Or.inl ⟨by rfl, ?_⟩) (by assumption) ?_
    rotate_left
    · intro W0 hSw; obtain ⟨hSa, hSb⟩ := hSw; go_simp; all_goals (with_reducible rfl)
    try simp only [Act.put, List.getElem_toArray, List.getElem_cons_succ, List.getElem_cons_zero, List.setIfInBounds_toArray, List.set_cons_zero, List.set_cons_succ]
    refine wpAnyH_take (i := 17) (v := ?_) rfl (by kernel_rfl) (by kernel_rfl) (by kernel_rfl) (fun _ _ _ h => h) (Or.inl ⟨by rfl, ?_⟩) (by assumption) ?_
    rotate_left
    · intro W0 hSw; obtain ⟨hSa, hSb⟩ := hSw; go_simp; all_goals (with_reducible rfl)
    try simp only [Act.put, List.getElem_toArray, List.getElem_cons_succ, List.getElem_cons_zero, List.setIfInBounds_toArray, List.set_cons_zero, List.set_cons_succ]
    refine wpAnyH_take (i := 18) (v := ?_) rfl (by kernel_rfl) (by kernel_rfl) (by kernel_rfl) (fun _ _ _ h => h) (Or.inl ⟨by rfl, ?_⟩) (by assumption) ?_
    rotate_left
    · intro W0 hSw; obtain ⟨hSa, hSb⟩ := hSw; go_simp; all_goals (with_reducible rfl)
    try simp only [Act.put, List.getElem_toArray, List.getElem_cons_succ, List.getElem_cons_zero, List.setIfInBounds_toArray, List.set_cons_zero, List.set_cons_succ]
    refine wpAnyH_take (i := 19) (v := ?_) rfl (by kernel_rfl) (by kernel_rfl) (by kernel_rfl) (fun _ _ _ h => h) (Or.inl ⟨by rfl, ?_⟩) (by assumption) ?_
    rotate_left
    · intro W0 hSw; obtain ⟨hSa, hSb⟩ := hSw; go_simp; all_goals (with_reducible rfl)
    try simp only [Act.put, List.getElem_toArray, List.getElem_cons_succ, List.getElem_cons_zero, List.setIfInBounds_toArray, List.set_cons_zero, List.set_cons_succ]
    refine wpAnyH_take (i := 20) (v := ?_) rfl (by kernel_rfl) (by kernel_rfl) (by kernel_rfl) (fun _ _ _ h => h) (Or.inl ⟨by rfl, ?_⟩) (by assumption) ?_
    rotate_left
    · intro W0 hSw; obtain ⟨hSa, hSb⟩ := hSw; go_simp; all_goals (with_reducible rfl)
    try simp only [Act.put, List.getElem_toArray, List.getElem_cons_succ, List.getElem_cons_zero, List.setIfInBounds_toArray, List.set_cons_zero, List.set_cons_succ]
    refine wpAnyH_done (by kernel_rfl) ?_ _
    go_wp2_with fail
    go_ret
    exact ⟨rfl, HB.out.trans (hHeld.1.mono HB.out.size)⟩
  · obtain ⟨F2, hF2⟩ : ∃ F2 : ByteArray, F2 = ⟨(Lib.itoa (k + 1)).toArray⟩ := ⟨_, rfl⟩
    have hk2 : -9223372036854775808 ≤ k + 1 ∧ k + 1 ≤ 9223372036854775807 := by omega
    have hF2z : F2.size ≤ 20 := by rw [hF2]; exact itoa_size _ hk2.1 hk2.2
    have HF2 := Lib.hid (show F2.data.toList = Lib.itoa (k + 1) by rw [hF2])
    have CT2 := Lib.hid (fun W => (show Calls Tryd.prog 13 #[.int .i64 (k + 1)] W (fun e w' => e = .returned (.string F2) ∧ Below W.heap.size W w') by rw [hF2]; exact Ref01.text_any (k + 1).natAbs (k + 1) W (Nat.le_refl _) hk2.1 hk2.2))
    clear hF2
    have C8 := Lib.hid (fun k7 ql7 nl7 cl7 qh7 nh7 ch7 qz7 nz7 cz7 d7 (hdv : d7 = textV F.data.toList) (hSz : (F : ByteArray).size ≤ 1048576) (W : World) (g : Nat) (hgw : g = W.heap.size) (hW : Below w.heap.size w W) (hpv : PV.In W (⟨k7, F, ql7, nl7, cl7, qh7, nh7, ch7, qz7, nz7, cz7, d7⟩)) => (show Calls Tryd.prog 12 #[.agg #[.int .u8 k7, .string F, .slice ql7 nl7 cl7, .slice qh7 nh7 ch7, .slice qz7 nz7 cz7], .slice (some ⟨g, 0, none⟩) 2 2] (W.alloc (.cells #[.string ⟨#[105, 110, 99, 114]⟩, .string ⟨#[107]⟩] 9)) (DoW (textV F2.data.toList) (int (k + 1)) W) from by subst hgw; exact dow_to (by rw [show PV.d ⟨k7, F, ql7, nl7, cl7, qh7, nh7, ch7, qz7, nz7, cz7, d7⟩ = textV F.data.toList from hdv]; exact by rw [HF2.out]; exact doD_one (m := k) (Or.inr rfl) (by rw [HF.out]; exact num_text hk0 hk1) hk2.1 hk2.2) (call2 5 ⟨#[105, 110, 99, 114]⟩ ⟨#[107]⟩ (by decide) (by decide) (by decide) ⟨by decide, by decide⟩ (⟨k7, F, ql7, nl7, cl7, qh7, nh7, ch7, qz7, nz7, cz7, d7⟩) W hpv hSz (HG.out W hW))))
    have tk : (k == 9223372036854775807) = false := by rw [beq_eq_false_iff_ne]; exact h9
    obtain ⟨NI2, HNI2⟩ : ∃ NI, Hid ((int (k + 1)).length = NI) := ⟨_, Lib.hid rfl⟩
    obtain ⟨XI2, HXI2⟩ : ∃ XI : ByteArray, Hid (XI.data.toList = int (k + 1)) := ⟨⟨(int (k + 1)).toArray⟩, Lib.hid rfl⟩
    with_reducible refine (C8.out k7 ql7 nl7 cl7 qh7 nh7 ch7 qz7 nz7 cz7 d7 HD7.out HFS.out w9 _ rfl HB.out HV7.out.pv).mono ?_
    rintro e wa8 ⟨p8, vr8, rfl, hI, hd, hs, hA, hb⟩
    obtain ⟨k8, S8, ql8, nl8, cl8, qh8, nh8, ch8, qz8, nz8, cz8, d8⟩ := p8
    dsimp only [PV.agg]
    obtain ⟨q8, c8, rfl, hv8⟩ := ans_text hA NI2 HNI2.out XI2 HXI2.out
    obtain rfl : F2 = S8 := (text_eq hs rfl).symm
    have HI8 := Lib.hid hI
    have HD8 := Lib.hid (show d8 = _ from hd)
    have hbn := hb.trans ((Kit.below1 wa8 (.cells #[.int .u8 k8, .string F2, .slice ql8 nl8 cl8, .slice qh8 nh8 ch8, .slice qz8 nz8 cz8] 26)).mono hb.size)
    have HB := Lib.hid (HB.out.trans (hbn.mono HB.out.size))
    have HV5 := Lib.hid (HV5.out.keep hbn)
    have HV7 := Lib.hid (HV7.out.keep hbn)
    have HC2 := Lib.hid (fun W hW => HC2.out W (hbn.trans (Below.mono hW hbn.size)))
    have HC3 := Lib.hid (fun W hW => HC3.out W (hbn.trans (Below.mono hW hbn.size)))
    have HC4 := Lib.hid (fun W hW => HC4.out W (hbn.trans (Below.mono hW hbn.size)))
    have HC5 := Lib.hid (fun W hW => HC5.out W (hbn.trans (Below.mono hW hbn.size)))
    have HC6 := Lib.hid (fun W hW => HC6.out W (hbn.trans (Below.mono hW hbn.size)))
    have HC7 := Lib.hid (fun W hW => HC7.out W (hbn.trans (Below.mono hW hbn.size)))
    have HV8 := Lib.hid (show VB _ wa8.heap.size ⟨k8, F2, ql8, nl8, cl8, qh8, nh8, ch8, qz8, nz8, cz8, d8⟩ from VB.new HI8.out)
    have hbx := Kit.below1 wa8 (.cells #[.int .u8 k8, .string F2, .slice ql8 nl8 cl8, .slice qh8 nh8 ch8, .slice qz8 nz8 cz8] 26)
    have HC8 := Lib.hid (fun W hW => hv8 W (hbx.trans (Below.mono hW hbx.size)))
    clear hbx
    clear hI hd hs hA hb hbn hv8
    go_upto_region 12 with fail
    generalize hgg : wa8.heap.size = g8 at HV8 ⊢
    clear hgg
    generalize wa8.alloc (.cells #[.int .u8 k8, .string F2, .slice ql8 nl8 cl8, .slice qh8 nh8 ch8, .slice qz8 nz8 cz8] 26) = w10 at HB HV8 HV5 HV7 HC2 HC3 HC4 HC5 HC6 HC7 HC8 ⊢
    clear C8
    have hk5 : k5 = 0 := by have h := VIn.ek HV5.out.pv; rw [show k5 = (d5.kind : Int) from h, HD5.out]; rfl
    subst hk5
    have hl5 : ∀ W, Below w10.heap.size w10 W → W.cell? ⟨g5, 0, none⟩ = some (.int .u8 0) := fun W hW => (HV5.out.keep hW).room.c0
    have hl7 : ∀ W, Below w10.heap.size w10 W → W.cell? ⟨g7, 1, none⟩ = some (.string F) := fun W hW => (HV7.out.keep hW).room.c1
    have hl8 : ∀ W, Below w10.heap.size w10 W → W.cell? ⟨g8, 1, none⟩ = some (.string F2) := fun W hW => (HV8.out.keep hW).room.c1
    have hv2 := HC2.out
    have hv3 := HC3.out
    have hv4 := HC4.out
    have hv5 := HC5.out
    have hv6 := HC6.out
    have hv7 := HC7.out
    have hv8 := HC8.out
    have A1 := Lib.hid (fun W (h : Below w10.heap.size w10 W) => (show Calls Tryd.prog 14 #[.string Y] W (Said w10 W NBk XBk) from (rbulk Y W (by omega)).mono (fun e w' hh => said_of hh h NBk HNBk.out XBk HXBk.out)))
    have A2 := Lib.hid (fun W (h : Below w10.heap.size w10 W) => (show Calls Tryd.prog 15 #[.int .i64 (Y.size : Int)] W (Said w10 W NI XI) from (rint (Y.size : Int) W (by omega) (by omega)).mono (fun e w' hh => said_of hh h NI HNI.out XI HXI.out)))
    have A3 := Lib.hid (fun W (h : Below w10.heap.size w10 W) => (show Calls Tryd.prog 16 #[] W (Said w10 W 5 ⟨#[36, 45, 49, 13, 10]⟩) from (rnull W).mono (fun e w' hh => said_of hh h 5 (by decide) _ (by decide))))
    have A4 := Lib.hid (fun W (h : Below w10.heap.size w10 W) => (show Calls Tryd.prog 13 #[.int .i64 k] W (Plain w10 W (.string F)) from (CT.out W).mono (fun e w' hh => plain_of hh.1 hh.2 h)))
    have A5 := Lib.hid (fun W (h : Below w10.heap.size w10 W) => (show Calls Tryd.prog 13 #[.int .i64 (k + 1)] W (Plain w10 W (.string F2)) from (CT2.out W).mono (fun e w' hh => plain_of hh.1 hh.2 h)))
    have A6 := Lib.hid (fun W (h : Below w10.heap.size w10 W) => (show Calls Tryd.prog 15 #[.int .i64 k] W (Said w10 W NIk XIk) from (rint k W hk0 hk1).mono (fun e w' hh => said_of hh h NIk HNIk.out XIk HXIk.out)))
    have A7 := Lib.hid (fun W (h : Below w10.heap.size w10 W) => (show Calls Tryd.prog 15 #[.int .i64 (k + 1)] W (Said w10 W NI2 XI2) from (rint (k + 1) W hk2.1 hk2.2).mono (fun e w' hh => said_of hh h NI2 HNI2.out XI2 HXI2.out)))
    clear HI7 HD7 HI8 HD8 HXS HYS HFS HLt HG HGg HI5 HD5 HI2 HD2 HI1 HD1 CT CT2 h9
    obtain ⟨e1, e2⟩ := sum_in HYl.out hYz
    obtain ⟨e3, e4⟩ := one_in hk2
    clear hk2
    refine wp_region_held_drew (S := fun W => Below w10.heap.size w10 W ∧ Below w10.heap.size w10 W) (by kernel_rfl) ?_ (fun hHeld => ?_)
    · exact ⟨(Below.refl _ _).drew, (Below.refl _ _).drew⟩
    refine wpAnyH_take (i := 0) (v := ?_) rfl (by kernel_rfl) (by kernel_rfl) (by kernel_rfl) (fun _ _ _ h => h) (Or.inl ⟨by rfl, ?_⟩) (by assumption) ?_
    rotate_left
    · intro W0 hSw; obtain ⟨hSa, hSb⟩ := hSw; go_simp; all_goals (with_reducible rfl)
    try simp only [Act.put, List.getElem_toArray, List.getElem_cons_zero, List.setIfInBounds_toArray, List.set_cons_zero, List.set_cons_succ]
    refine wpAnyH_take (i := 1) (v := ?_) rfl (by kernel_rfl) (by kernel_rfl) (by kernel_rfl) (fun _ _ _ h => h) (Or.inl ⟨by rfl, ?_⟩) (by assumption) ?_
    rotate_left
    · intro W0 hSw; obtain ⟨hSa, hSb⟩ := hSw; go_simp; all_goals (with_reducible rfl)
    try simp only [Act.put, List.getElem_toArray, List.getElem_cons_succ, List.getElem_cons_zero, List.setIfInBounds_toArray, List.set_cons_zero, List.set_cons_succ]
    refine wpAnyH_take (i := 2) (v := ?_) rfl (by kernel_rfl) (by kernel_rfl) (by kernel_rfl) (fun _ _ _ h => h) (Or.inl ⟨by rfl, ?_⟩) (by assumption) ?_
    rotate_left
    · intro W0 hSw; obtain ⟨hSa, hSb⟩ := hSw; go_simp; all_goals (with_reducible rfl)
    try simp only [Act.put, List.getElem_toArray, List.getElem_cons_succ, List.getElem_cons_zero, List.setIfInBounds_toArray, List.set_cons_zero, List.set_cons_succ]
    refine wpAnyH_take (i := 3) (v := ?_) rfl (by kernel_rfl) (by kernel_rfl) (by kernel_rfl) (fun _ _ _ h => h) (Or.inl ⟨by rfl, ?_⟩) (by assumption) ?_
    rotate_left
    · intro W0 hSw; obtain ⟨hSa, hSb⟩ := hSw; go_simp; all_goals (with_reducible rfl)
    try simp only [Act.put, List.getElem_toArray, List.getElem_cons_succ, List.getElem_cons_zero, List.setIfInBounds_toArray, List.set_cons_zero, List.set_cons_succ]
    refine wpAnyH_take (i := 4) (v := ?_) rfl (by kernel_rfl) (by kernel_rfl) (by kernel_rfl) (fun _ _ _ h => h) (Or.inl ⟨by rfl, ?_⟩) (by assumption) ?_
    rotate_left
    · intro W0 hSw; obtain ⟨hSa, hSb⟩ := hSw; go_simp; all_goals (with_reducible rfl)
    try simp only [Act.put, List.getElem_toArray, List.getElem_cons_succ, List.getElem_cons_zero, List.setIfInBounds_toArray, List.set_cons_zero, List.set_cons_succ]
    refine wpAnyH_ready (rs := [5]) (by kernel_rfl) (by simp) ?_
    refine AllReadyH.cons rfl (fun K hK => ?_) AllReadyH.nil
    go_simp
    go_wp2_with (go_at_call 14; (refine (A1.out _ hHeld.1).mono ?_); rintro e wA0 ⟨pwA0, cwA0, rfl, vwA0, bwA0, ywA0, zwA0⟩)
    have hC := hHeld.2.trans (ywA0.mono hHeld.2.size)
    refine hK.out _ _ ?_ (fun hHeld2 => ?_)
    · exact ⟨bwA0, hC⟩
    clear hK K hHeld hHeld2
    have hHeld : Below w10.heap.size w10 wA0 ∧ Below wA0.heap.size wA0 wA0 := ⟨bwA0, zwA0⟩
    refine held_mono (S' := fun W => Below w10.heap.size w10 W ∧ Below wA0.heap.size wA0 W) (fun W hW => ⟨hW.1, hC.trans (hW.2.mono hC.size)⟩) _ _ _ _ ?_
    clear hC
    refine wpAnyH_take (i := 6) (v := ?_) rfl (by kernel_rfl) (by kernel_rfl) (by kernel_rfl) (fun _ _ _ h => h) (Or.inl ⟨by rfl, ?_⟩) (by assumption) ?_
    rotate_left
    · intro W0 hSw; obtain ⟨hSa, hSb⟩ := hSw; go_simp; all_goals (with_reducible rfl)
    try simp only [Act.put, List.getElem_toArray, List.getElem_cons_succ, List.getElem_cons_zero, List.setIfInBounds_toArray, List.set_cons_zero, List.set_cons_succ]
    refine wpAnyH_take (i := 7) (v := ?_) rfl (by kernel_rfl) (by kernel_rfl) (by kernel_rfl) (fun _ _ _ h => h) (Or.inl ⟨by rfl, ?_⟩) (by assumption) ?_
    rotate_left
    · intro W0 hSw; obtain ⟨hSa, hSb⟩ := hSw; go_simp; all_goals (with_reducible rfl)
    try simp only [Act.put, List.getElem_toArray, List.getElem_cons_succ, List.getElem_cons_zero, List.setIfInBounds_toArray, List.set_cons_zero, List.set_cons_succ]
    refine wpAnyH_take (i := 8) (v := ?_) rfl (by kernel_rfl) (by kernel_rfl) (by kernel_rfl) (fun _ _ _ h => h) (Or.inl ⟨by rfl, ?_⟩) (by assumption) ?_
    rotate_left
    · intro W0 hSw; obtain ⟨hSa, hSb⟩ := hSw; go_simp; all_goals (with_reducible rfl)
    try simp only [Act.put, List.getElem_toArray, List.getElem_cons_succ, List.getElem_cons_zero, List.setIfInBounds_toArray, List.set_cons_zero, List.set_cons_succ]
    refine wpAnyH_take (i := 9) (v := ?_) rfl (by kernel_rfl) (by kernel_rfl) (by kernel_rfl) (fun _ _ _ h => h) (Or.inl ⟨by rfl, ?_⟩) (by assumption) ?_
    rotate_left
    · intro W0 hSw; obtain ⟨hSa, hSb⟩ := hSw; go_simp; all_goals (with_reducible rfl)
    try simp only [Act.put, List.getElem_toArray, List.getElem_cons_succ, List.getElem_cons_zero, List.setIfInBounds_toArray, List.set_cons_zero, List.set_cons_succ]
    refine wpAnyH_take (i := 10) (v := ?_) rfl (by kernel_rfl) (by kernel_rfl) (by kernel_rfl) (fun _ _ _ h => h) (Or.inl ⟨by rfl, ?_⟩) (by assumption) ?_
    rotate_left
    · intro W0 hSw; obtain ⟨hSa, hSb⟩ := hSw; go_simp; all_goals (with_reducible rfl)
    try simp only [Act.put, List.getElem_toArray, List.getElem_cons_succ, List.getElem_cons_zero, List.setIfInBounds_toArray, List.set_cons_zero, List.set_cons_succ]
    refine wpAnyH_take (i := 11) (v := ?_) rfl (by kernel_rfl) (by kernel_rfl) (by kernel_rfl) (fun _ _ _ h => h) (Or.inl ⟨by rfl, ?_⟩) (by assumption) ?_
    rotate_left
    · intro W0 hSw; obtain ⟨hSa, hSb⟩ := hSw; go_simp; all_goals (with_reducible rfl)
    try simp only [Act.put, List.getElem_toArray, List.getElem_cons_succ, List.getElem_cons_zero, List.setIfInBounds_toArray, List.set_cons_zero, List.set_cons_succ]
    refine wpAnyH_take (i := 12) (v := ?_) rfl (by kernel_rfl) (by kernel_rfl) (by kernel_rfl) (fun _ _ _ h => h) (Or.inl ⟨by rfl, ?_⟩) (by assumption) ?_
    rotate_left
    · intro W0 hSw; obtain ⟨hSa, hSb⟩ := hSw; go_simp; all_goals (with_reducible rfl)
    try simp only [Act.put, List.getElem_toArray, List.getElem_cons_succ, List.getElem_cons_zero, List.setIfInBounds_toArray, List.set_cons_zero, List.set_cons_succ]
    refine wpAnyH_take (i := 13) (v := ?_) rfl (by kernel_rfl) (by kernel_rfl) (by kernel_rfl) (fun _ _ _ h => h) (Or.inl ⟨by rfl, ?_⟩) (by assumption) ?_
    rotate_left
    · intro W0 hSw; obtain ⟨hSa, hSb⟩ := hSw; go_simp; all_goals (with_reducible rfl)
    try simp only [Act.put, List.getElem_toArray, List.getElem_cons_succ, List.getElem_cons_zero, List.setIfInBounds_toArray, List.set_cons_zero, List.set_cons_succ]
    refine wpAnyH_take (i := 14) (v := ?_) rfl (by kernel_rfl) (by kernel_rfl) (by kernel_rfl) (fun _ _ _ h => h) (Or.inl ⟨by rfl, ?_⟩) (by assumption) ?_
    rotate_left
    · intro W0 hSw; obtain ⟨hSa, hSb⟩ := hSw; go_simp; all_goals (with_reducible rfl)
    try simp only [Act.put, List.getElem_toArray, List.getElem_cons_succ, List.getElem_cons_zero, List.setIfInBounds_toArray, List.set_cons_zero, List.set_cons_succ]
    refine wpAnyH_take (i := 15) (v := ?_) rfl (by kernel_rfl) (by kernel_rfl) (by kernel_rfl) (fun _ _ _ h => h) (Or.inl ⟨by rfl, ?_⟩) (by assumption) ?_
    rotate_left
    · intro W0 hSw; obtain ⟨hSa, hSb⟩ := hSw; go_simp; all_goals (with_reducible rfl)
    try simp only [Act.put, List.getElem_toArray, List.getElem_cons_succ, List.getElem_cons_zero, List.setIfInBounds_toArray, List.set_cons_zero, List.set_cons_succ]
    refine wpAnyH_take (i := 16) (v := ?_) rfl (by kernel_rfl) (by kernel_rfl) (by kernel_rfl) (fun _ _ _ h => h) (Or.inl ⟨by rfl, ?_⟩) (by assumption) ?_
    rotate_left
    · intro W0 hSw; obtain ⟨hSa, hSb⟩ := hSw; go_simp; all_goals (with_reducible rfl)
    try simp only [Act.put, List.getElem_toArray, List.getElem_cons_succ, List.getElem_cons_zero, List.setIfInBounds_toArray, List.set_cons_zero, List.set_cons_succ]
    refine wpAnyH_take (i := 17) (v := ?_) rfl (by kernel_rfl) (by kernel_rfl) (by kernel_rfl) (fun _ _ _ h => h) (Or.inl ⟨by rfl, ?_⟩) (by assumption) ?_
    rotate_left
    · intro W0 hSw; obtain ⟨hSa, hSb⟩ := hSw; go_simp; all_goals (with_reducible rfl)
    try simp only [Act.put, List.getElem_toArray, List.getElem_cons_succ, List.getElem_cons_zero, List.setIfInBounds_toArray, List.set_cons_zero, List.set_cons_succ]
    refine wpAnyH_take (i := 18) (v := ?_) rfl (by kernel_rfl) (by kernel_rfl) (by kernel_rfl) (fun _ _ _ h => h) (Or.inl ⟨by rfl, ?_⟩) (by assumption) ?_
    rotate_left
    · intro W0 hSw; obtain ⟨hSa, hSb⟩ := hSw; go_simp; all_goals (with_reducible rfl)
    try simp only [Act.put, List.getElem_toArray, List.getElem_cons_succ, List.getElem_cons_zero, List.setIfInBounds_toArray, List.set_cons_zero, List.set_cons_succ]
    refine wpAnyH_take (i := 19) (v := ?_) rfl (by kernel_rfl) (by kernel_rfl) (by kernel_rfl) (fun _ _ _ h => h) (Or.inl ⟨by rfl, ?_⟩) (by assumption) ?_
    rotate_left
    · intro W0 hSw; obtain ⟨hSa, hSb⟩ := hSw; go_simp; all_goals (with_reducible rfl)
    try simp only [Act.put, List.getElem_toArray, List.getElem_cons_succ, List.getElem_cons_zero, List.setIfInBounds_toArray, List.set_cons_zero, List.set_cons_succ]
    refine wpAnyH_take (i := 20) (v := ?_) rfl (by kernel_rfl) (by kernel_rfl) (by kernel_rfl) (fun _ _ _ h => h) (Or.inl ⟨by rfl, ?_⟩) (by assumption) ?_
    rotate_left
    · intro W0 hSw; obtain ⟨hSa, hSb⟩ := hSw; go_simp; all_goals (with_reducible rfl)
    try simp only [Act.put, List.getElem_toArray, List.getElem_cons_succ, List.getElem_cons_zero, List.setIfInBounds_toArray, List.set_cons_zero, List.set_cons_succ]
    refine wpAnyH_take (i := 21) (v := ?_) rfl (by kernel_rfl) (by kernel_rfl) (by kernel_rfl) (fun _ _ _ h => h) (Or.inl ⟨by rfl, ?_⟩) (by assumption) ?_
    rotate_left
    · intro W0 hSw; obtain ⟨hSa, hSb⟩ := hSw; go_simp; all_goals (with_reducible rfl)
    try simp only [Act.put, List.getElem_toArray, List.getElem_cons_succ, List.getElem_cons_zero, List.setIfInBounds_toArray, List.set_cons_zero, List.set_cons_succ]
    refine wpAnyH_take (i := 22) (v := ?_) rfl (by kernel_rfl) (by kernel_rfl) (by kernel_rfl) (fun _ _ _ h => h) (Or.inl ⟨by rfl, ?_⟩) (by assumption) ?_
    rotate_left
    · intro W0 hSw; obtain ⟨hSa, hSb⟩ := hSw; go_simp; all_goals (with_reducible rfl)
    try simp only [Act.put, List.getElem_toArray, List.getElem_cons_succ, List.getElem_cons_zero, List.setIfInBounds_toArray, List.set_cons_zero, List.set_cons_succ]
    refine wpAnyH_take (i := 23) (v := ?_) rfl (by kernel_rfl) (by kernel_rfl) (by kernel_rfl) (fun _ _ _ h => h) (Or.inl ⟨by rfl, ?_⟩) (by assumption) ?_
    rotate_left
    · intro W0 hSw; obtain ⟨hSa, hSb⟩ := hSw; go_simp; all_goals (with_reducible rfl)
    try simp only [Act.put, List.getElem_toArray, List.getElem_cons_succ, List.getElem_cons_zero, List.setIfInBounds_toArray, List.set_cons_zero, List.set_cons_succ]
    refine wpAnyH_take (i := 24) (v := ?_) rfl (by kernel_rfl) (by kernel_rfl) (by kernel_rfl) (fun _ _ _ h => h) (Or.inl ⟨by rfl, ?_⟩) (by assumption) ?_
    rotate_left
    · intro W0 hSw; obtain ⟨hSa, hSb⟩ := hSw; go_simp; all_goals (with_reducible rfl)
    try simp only [Act.put, List.getElem_toArray, List.getElem_cons_succ, List.getElem_cons_zero, List.setIfInBounds_toArray, List.set_cons_zero, List.set_cons_succ]
    refine wpAnyH_take (i := 25) (v := ?_) rfl (by kernel_rfl) (by kernel_rfl) (by kernel_rfl) (fun _ _ _ h => h) (Or.inl ⟨by rfl, ?_⟩) (by assumption) ?_
    rotate_left
    · intro W0 hSw; obtain ⟨hSa, hSb⟩ := hSw; go_simp; all_goals (with_reducible rfl)
    try simp only [Act.put, List.getElem_toArray, List.getElem_cons_succ, List.getElem_cons_zero, List.setIfInBounds_toArray, List.set_cons_zero, List.set_cons_succ]
    refine wpAnyH_take (i := 26) (v := ?_) rfl (by kernel_rfl) (by kernel_rfl) (by kernel_rfl) (fun _ _ _ h => h) (Or.inl ⟨by rfl, ?_⟩) (by assumption) ?_
    rotate_left
    · intro W0 hSw; obtain ⟨hSa, hSb⟩ := hSw; go_simp; all_goals (with_reducible rfl)
    try simp only [Act.put, List.getElem_toArray, List.getElem_cons_succ, List.getElem_cons_zero, List.setIfInBounds_toArray, List.set_cons_zero, List.set_cons_succ]
    refine wpAnyH_take (i := 27) (v := ?_) rfl (by kernel_rfl) (by kernel_rfl) (by kernel_rfl) (fun _ _ _ h => h) (Or.inl ⟨by rfl, ?_⟩) (by assumption) ?_
    rotate_left
    · intro W0 hSw; obtain ⟨hSa, hSb⟩ := hSw; go_simp; all_goals (with_reducible rfl)
    try simp only [Act.put, List.getElem_toArray, List.getElem_cons_succ, List.getElem_cons_zero, List.setIfInBounds_toArray, List.set_cons_zero, List.set_cons_succ]
    refine wpAnyH_take (i := 28) (v := ?_) rfl (by kernel_rfl) (by kernel_rfl) (by kernel_rfl) (fun _ _ _ h => h) (Or.inl ⟨by rfl, ?_⟩) (by assumption) ?_
    rotate_left
    · intro W0 hSw; obtain ⟨hSa, hSb⟩ := hSw; go_simp; all_goals (with_reducible rfl)
    try simp only [Act.put, List.getElem_toArray, List.getElem_cons_succ, List.getElem_cons_zero, List.setIfInBounds_toArray, List.set_cons_zero, List.set_cons_succ]
    refine wpAnyH_take (i := 29) (v := ?_) rfl (by kernel_rfl) (by kernel_rfl) (by kernel_rfl) (fun _ _ _ h => h) (Or.inl ⟨by rfl, ?_⟩) (by assumption) ?_
    rotate_left
    · intro W0 hSw; obtain ⟨hSa, hSb⟩ := hSw; go_simp; all_goals (with_reducible rfl)
    try simp only [Act.put, List.getElem_toArray, List.getElem_cons_succ, List.getElem_cons_zero, List.setIfInBounds_toArray, List.set_cons_zero, List.set_cons_succ]
    refine wpAnyH_ready (rs := [30]) (by kernel_rfl) (by simp) ?_
    refine AllReadyH.cons rfl (fun K hK => ?_) AllReadyH.nil
    go_simp
    go_wp2_with (go_at_call 15; (refine (A2.out _ hHeld.1).mono ?_); rintro e wA1 ⟨pwA1, cwA1, rfl, vwA1, bwA1, ywA1, zwA1⟩)
    have hC := hHeld.2.trans (ywA1.mono hHeld.2.size)
    refine hK.out _ _ ?_ (fun hHeld2 => ?_)
    · exact ⟨bwA1, hC⟩
    clear hK K hHeld hHeld2
    have hHeld : Below w10.heap.size w10 wA1 ∧ Below wA1.heap.size wA1 wA1 := ⟨bwA1, zwA1⟩
    refine held_mono (S' := fun W => Below w10.heap.size w10 W ∧ Below wA1.heap.size wA1 W) (fun W hW => ⟨hW.1, hC.trans (hW.2.mono hC.size)⟩) _ _ _ _ ?_
    clear hC
    refine wpAnyH_take (i := 31) (v := ?_) rfl (by kernel_rfl) (by kernel_rfl) (by kernel_rfl) (fun _ _ _ h => h) (Or.inl ⟨by rfl, ?_⟩) (by assumption) ?_
    rotate_left
    · intro W0 hSw; obtain ⟨hSa, hSb⟩ := hSw; go_simp; all_goals (with_reducible rfl)
    try simp only [Act.put, List.getElem_toArray, List.getElem_cons_succ, List.getElem_cons_zero, List.setIfInBounds_toArray, List.set_cons_zero, List.set_cons_succ]
    refine wpAnyH_take (i := 32) (v := ?_) rfl (by kernel_rfl) (by kernel_rfl) (by kernel_rfl) (fun _ _ _ h => h) (Or.inl ⟨by rfl, ?_⟩) (by assumption) ?_
    rotate_left
    · intro W0 hSw; obtain ⟨hSa, hSb⟩ := hSw; go_simp; all_goals (with_reducible rfl)
    try simp only [Act.put, List.getElem_toArray, List.getElem_cons_succ, List.getElem_cons_zero, List.setIfInBounds_toArray, List.set_cons_zero, List.set_cons_succ]
    refine wpAnyH_take (i := 33) (v := ?_) rfl (by kernel_rfl) (by kernel_rfl) (by kernel_rfl) (fun _ _ _ h => h) (Or.inl ⟨by rfl, ?_⟩) (by assumption) ?_
    rotate_left
    · intro W0 hSw; obtain ⟨hSa, hSb⟩ := hSw; go_simp; all_goals (with_reducible rfl)
    try simp only [Act.put, List.getElem_toArray, List.getElem_cons_succ, List.getElem_cons_zero, List.setIfInBounds_toArray, List.set_cons_zero, List.set_cons_succ]
    refine wpAnyH_take (i := 34) (v := ?_) rfl (by kernel_rfl) (by kernel_rfl) (by kernel_rfl) (fun _ _ _ h => h) (Or.inl ⟨by rfl, ?_⟩) (by assumption) ?_
    rotate_left
    · intro W0 hSw; obtain ⟨hSa, hSb⟩ := hSw; go_simp; all_goals (with_reducible rfl)
    try simp only [Act.put, List.getElem_toArray, List.getElem_cons_succ, List.getElem_cons_zero, List.setIfInBounds_toArray, List.set_cons_zero, List.set_cons_succ]
    refine wpAnyH_take (i := 35) (v := ?_) rfl (by kernel_rfl) (by kernel_rfl) (by kernel_rfl) (fun _ _ _ h => h) (Or.inl ⟨by rfl, ?_⟩) (by assumption) ?_
    rotate_left
    · intro W0 hSw; obtain ⟨hSa, hSb⟩ := hSw; go_simp; all_goals (with_reducible rfl)
    try simp only [Act.put, List.getElem_toArray, List.getElem_cons_succ, List.getElem_cons_zero, List.setIfInBounds_toArray, List.set_cons_zero, List.set_cons_succ]
    refine wpAnyH_take (i := 36) (v := ?_) rfl (by kernel_rfl) (by kernel_rfl) (by kernel_rfl) (fun _ _ _ h => h) (Or.inl ⟨by rfl, ?_⟩) (by assumption) ?_
    rotate_left
    · intro W0 hSw; obtain ⟨hSa, hSb⟩ := hSw; go_simp; all_goals (with_reducible rfl)
    try simp only [Act.put, List.getElem_toArray, List.getElem_cons_succ, List.getElem_cons_zero, List.setIfInBounds_toArray, List.set_cons_zero, List.set_cons_succ]
    refine wpAnyH_ready (rs := [37]) (by kernel_rfl) (by simp) ?_
    refine AllReadyH.cons rfl (fun K hK => ?_) AllReadyH.nil
    go_simp
    go_wp2_with (go_at_call 16; (refine (A3.out _ hHeld.1).mono ?_); rintro e wA2 ⟨pwA2, cwA2, rfl, vwA2, bwA2, ywA2, zwA2⟩)
    have hC := hHeld.2.trans (ywA2.mono hHeld.2.size)
    refine hK.out _ _ ?_ (fun hHeld2 => ?_)
    · exact ⟨bwA2, hC⟩
    clear hK K hHeld hHeld2
    have hHeld : Below w10.heap.size w10 wA2 ∧ Below wA2.heap.size wA2 wA2 := ⟨bwA2, zwA2⟩
    refine held_mono (S' := fun W => Below w10.heap.size w10 W ∧ Below wA2.heap.size wA2 W) (fun W hW => ⟨hW.1, hC.trans (hW.2.mono hC.size)⟩) _ _ _ _ ?_
    clear hC
    refine wpAnyH_take (i := 38) (v := ?_) rfl (by kernel_rfl) (by kernel_rfl) (by kernel_rfl) (fun _ _ _ h => h) (Or.inl ⟨by rfl, ?_⟩) (by assumption) ?_
    rotate_left
    · intro W0 hSw; obtain ⟨hSa, hSb⟩ := hSw; go_simp; all_goals (with_reducible rfl)
    try simp only [Act.put, List.getElem_toArray, List.getElem_cons_succ, List.getElem_cons_zero, List.setIfInBounds_toArray, List.set_cons_zero, List.set_cons_succ]
    refine wpAnyH_take (i := 39) (v := ?_) rfl (by kernel_rfl) (by kernel_rfl) (by kernel_rfl) (fun _ _ _ h => h) (Or.inl ⟨by rfl, ?_⟩) (by assumption) ?_
    rotate_left
    · intro W0 hSw; obtain ⟨hSa, hSb⟩ := hSw; go_simp; all_goals (with_reducible rfl)
    try simp only [Act.put, List.getElem_toArray, List.getElem_cons_succ, List.getElem_cons_zero, List.setIfInBounds_toArray, List.set_cons_zero, List.set_cons_succ]
    refine wpAnyH_take (i := 40) (v := ?_) rfl (by kernel_rfl) (by kernel_rfl) (by kernel_rfl) (fun _ _ _ h => h) (Or.inl ⟨by rfl, ?_⟩) (by assumption) ?_
    rotate_left
    · intro W0 hSw; obtain ⟨hSa, hSb⟩ := hSw; go_simp; all_goals (with_reducible rfl)
    try simp only [Act.put, List.getElem_toArray, List.getElem_cons_succ, List.getElem_cons_zero, List.setIfInBounds_toArray, List.set_cons_zero, List.set_cons_succ]
    refine wpAnyH_take (i := 41) (v := ?_) rfl (by kernel_rfl) (by kernel_rfl) (by kernel_rfl) (fun _ _ _ h => h) (Or.inl ⟨by rfl, ?_⟩) (by assumption) ?_
    rotate_left
    · intro W0 hSw; obtain ⟨hSa, hSb⟩ := hSw; go_simp; all_goals (with_reducible rfl)
    try simp only [Act.put, List.getElem_toArray, List.getElem_cons_succ, List.getElem_cons_zero, List.setIfInBounds_toArray, List.set_cons_zero, List.set_cons_succ]
    refine wpAnyH_take (i := 42) (v := ?_) rfl (by kernel_rfl) (by kernel_rfl) (by kernel_rfl) (fun _ _ _ h => h) (Or.inl ⟨by rfl, ?_⟩) (by assumption) ?_
    rotate_left
    · intro W0 hSw; obtain ⟨hSa, hSb⟩ := hSw; go_simp; all_goals (with_reducible rfl)
    try simp only [Act.put, List.getElem_toArray, List.getElem_cons_succ, List.getElem_cons_zero, List.setIfInBounds_toArray, List.set_cons_zero, List.set_cons_succ]
    refine wpAnyH_take (i := 43) (v := ?_) rfl (by kernel_rfl) (by kernel_rfl) (by kernel_rfl) (fun _ _ _ h => h) (Or.inl ⟨by rfl, ?_⟩) (by assumption) ?_
    rotate_left
    · intro W0 hSw; obtain ⟨hSa, hSb⟩ := hSw; go_simp; all_goals (with_reducible rfl)
    try simp only [Act.put, List.getElem_toArray, List.getElem_cons_succ, List.getElem_cons_zero, List.setIfInBounds_toArray, List.set_cons_zero, List.set_cons_succ]
    refine wpAnyH_take (i := 44) (v := ?_) rfl (by kernel_rfl) (by kernel_rfl) (by kernel_rfl) (fun _ _ _ h => h) (Or.inl ⟨by rfl, ?_⟩) (by assumption) ?_
    rotate_left
    · intro W0 hSw; obtain ⟨hSa, hSb⟩ := hSw; go_simp; all_goals (with_reducible rfl)
    try simp only [Act.put, List.getElem_toArray, List.getElem_cons_succ, List.getElem_cons_zero, List.setIfInBounds_toArray, List.set_cons_zero, List.set_cons_succ]
    refine wpAnyH_take (i := 45) (v := ?_) rfl (by kernel_rfl) (by kernel_rfl) (by kernel_rfl) (fun _ _ _ h => h) (Or.inl ⟨by rfl, ?_⟩) (by assumption) ?_
    rotate_left
    · intro W0 hSw; obtain ⟨hSa, hSb⟩ := hSw; go_simp; all_goals (with_reducible rfl)
    try simp only [Act.put, List.getElem_toArray, List.getElem_cons_succ, List.getElem_cons_zero, List.setIfInBounds_toArray, List.set_cons_zero, List.set_cons_succ]
    refine wpAnyH_done (by kernel_rfl) ?_ _
    have HBb := Lib.hid (hHeld.1)
    go_upto_region 16 with fail
    refine wp_region_held_drew (S := fun W => Below w10.heap.size w10 W ∧ Below w10.heap.size w10 W) (by kernel_rfl) ?_ (fun hHeld => ?_)
    · exact ⟨HBb.out.drew, HBb.out.drew⟩
    refine wpAnyH_take (i := 0) (v := ?_) rfl (by kernel_rfl) (by kernel_rfl) (by kernel_rfl) (fun _ _ _ h => h) (Or.inl ⟨by rfl, ?_⟩) (by assumption) ?_
    rotate_left
    · intro W0 hSw; obtain ⟨hSa, hSb⟩ := hSw; go_simp; all_goals (with_reducible rfl)
    try simp only [Act.put, List.getElem_toArray, List.getElem_cons_zero, List.setIfInBounds_toArray, List.set_cons_zero, List.set_cons_succ]
    refine wpAnyH_take (i := 1) (v := ?_) rfl (by kernel_rfl) (by kernel_rfl) (by kernel_rfl) (fun _ _ _ h => h) (Or.inl ⟨by rfl, ?_⟩) (by assumption) ?_
    rotate_left
    · intro W0 hSw; obtain ⟨hSa, hSb⟩ := hSw; go_simp; all_goals (with_reducible rfl)
    try simp only [Act.put, List.getElem_toArray, List.getElem_cons_succ, List.getElem_cons_zero, List.setIfInBounds_toArray, List.set_cons_zero, List.set_cons_succ]
    refine wpAnyH_take (i := 2) (v := ?_) rfl (by kernel_rfl) (by kernel_rfl) (by kernel_rfl) (fun _ _ _ h => h) (Or.inl ⟨by rfl, ?_⟩) (by assumption) ?_
    rotate_left
    · intro W0 hSw; obtain ⟨hSa, hSb⟩ := hSw; go_simp; all_goals (with_reducible rfl)
    try simp only [Act.put, List.getElem_toArray, List.getElem_cons_succ, List.getElem_cons_zero, List.setIfInBounds_toArray, List.set_cons_zero, List.set_cons_succ]
    refine wpAnyH_take (i := 3) (v := ?_) rfl (by kernel_rfl) (by kernel_rfl) (by kernel_rfl) (fun _ _ _ h => h) (Or.inl ⟨by rfl, ?_⟩) (by assumption) ?_
    rotate_left
    · intro W0 hSw; obtain ⟨hSa, hSb⟩ := hSw; go_simp; all_goals (with_reducible rfl)
    try simp only [Act.put, List.getElem_toArray, List.getElem_cons_succ, List.getElem_cons_zero, List.setIfInBounds_toArray, List.set_cons_zero, List.set_cons_succ]
    refine wpAnyH_take (i := 4) (v := ?_) rfl (by kernel_rfl) (by kernel_rfl) (by kernel_rfl) (fun _ _ _ h => h) (Or.inl ⟨by rfl, ?_⟩) (by assumption) ?_
    rotate_left
    · intro W0 hSw; obtain ⟨hSa, hSb⟩ := hSw; go_simp; all_goals (with_reducible rfl)
    try simp only [Act.put, List.getElem_toArray, List.getElem_cons_succ, List.getElem_cons_zero, List.setIfInBounds_toArray, List.set_cons_zero, List.set_cons_succ]
    refine wpAnyH_ready (rs := [5]) (by kernel_rfl) (by simp) ?_
    refine AllReadyH.cons rfl (fun K hK => ?_) AllReadyH.nil
    go_simp
    go_wp2_with (go_at_call 13; (refine (A4.out _ hHeld.1).mono ?_); rintro e wB0 ⟨rfl, bwB0, ywB0, zwB0⟩)
    have hC := hHeld.2.trans (ywB0.mono hHeld.2.size)
    refine hK.out _ _ ?_ (fun hHeld2 => ?_)
    · exact ⟨bwB0, hC⟩
    clear hK K hHeld hHeld2
    have hHeld : Below w10.heap.size w10 wB0 ∧ Below wB0.heap.size wB0 wB0 := ⟨bwB0, zwB0⟩
    refine held_mono (S' := fun W => Below w10.heap.size w10 W ∧ Below wB0.heap.size wB0 W) (fun W hW => ⟨hW.1, hC.trans (hW.2.mono hC.size)⟩) _ _ _ _ ?_
    clear hC
    refine wpAnyH_take (i := 6) (v := ?_) rfl (by kernel_rfl) (by kernel_rfl) (by kernel_rfl) (fun _ _ _ h => h) (Or.inl ⟨by rfl, ?_⟩) (by assumption) ?_
    rotate_left
    · intro W0 hSw; obtain ⟨hSa, hSb⟩ := hSw; go_simp; all_goals (with_reducible rfl)
    try simp only [Act.put, List.getElem_toArray, List.getElem_cons_succ, List.getElem_cons_zero, List.setIfInBounds_toArray, List.set_cons_zero, List.set_cons_succ]
    refine wpAnyH_take (i := 7) (v := ?_) rfl (by kernel_rfl) (by kernel_rfl) (by kernel_rfl) (fun _ _ _ h => h) (Or.inl ⟨by rfl, ?_⟩) (by assumption) ?_
    rotate_left
    · intro W0 hSw; obtain ⟨hSa, hSb⟩ := hSw; go_simp; all_goals (with_reducible rfl)
    try simp only [Act.put, List.getElem_toArray, List.getElem_cons_succ, List.getElem_cons_zero, List.setIfInBounds_toArray, List.set_cons_zero, List.set_cons_succ]
    refine wpAnyH_take (i := 8) (v := ?_) rfl (by kernel_rfl) (by kernel_rfl) (by kernel_rfl) (fun _ _ _ h => h) (Or.inl ⟨by rfl, ?_⟩) (by assumption) ?_
    rotate_left
    · intro W0 hSw; obtain ⟨hSa, hSb⟩ := hSw; go_simp; all_goals (with_reducible rfl)
    try simp only [Act.put, List.getElem_toArray, List.getElem_cons_succ, List.getElem_cons_zero, List.setIfInBounds_toArray, List.set_cons_zero, List.set_cons_succ]
    refine wpAnyH_take (i := 9) (v := ?_) rfl (by kernel_rfl) (by kernel_rfl) (by kernel_rfl) (fun _ _ _ h => h) (Or.inl ⟨by rfl, ?_⟩) (by assumption) ?_
    rotate_left
    · intro W0 hSw; obtain ⟨hSa, hSb⟩ := hSw; go_simp; all_goals (with_reducible rfl)
    try simp only [Act.put, List.getElem_toArray, List.getElem_cons_succ, List.getElem_cons_zero, List.setIfInBounds_toArray, List.set_cons_zero, List.set_cons_succ]
    refine wpAnyH_take (i := 10) (v := ?_) rfl (by kernel_rfl) (by kernel_rfl) (by kernel_rfl) (fun _ _ _ h => h) (Or.inl ⟨by rfl, ?_⟩) (by assumption) ?_
    rotate_left
    · intro W0 hSw; obtain ⟨hSa, hSb⟩ := hSw; go_simp; all_goals (with_reducible rfl)
    try simp only [Act.put, List.getElem_toArray, List.getElem_cons_succ, List.getElem_cons_zero, List.setIfInBounds_toArray, List.set_cons_zero, List.set_cons_succ]
    refine wpAnyH_take (i := 11) (v := ?_) rfl (by kernel_rfl) (by kernel_rfl) (by kernel_rfl) (fun _ _ _ h => h) (Or.inl ⟨by rfl, ?_⟩) (by assumption) ?_
    rotate_left
    · intro W0 hSw; obtain ⟨hSa, hSb⟩ := hSw; go_simp; all_goals (with_reducible rfl)
    try simp only [Act.put, List.getElem_toArray, List.getElem_cons_succ, List.getElem_cons_zero, List.setIfInBounds_toArray, List.set_cons_zero, List.set_cons_succ]
    refine wpAnyH_take (i := 12) (v := ?_) rfl (by kernel_rfl) (by kernel_rfl) (by kernel_rfl) (fun _ _ _ h => h) (Or.inl ⟨by rfl, ?_⟩) (by assumption) ?_
    rotate_left
    · intro W0 hSw; obtain ⟨hSa, hSb⟩ := hSw; go_simp; all_goals (with_reducible rfl)
    try simp only [Act.put, List.getElem_toArray, List.getElem_cons_succ, List.getElem_cons_zero, List.setIfInBounds_toArray, List.set_cons_zero, List.set_cons_succ]
    refine wpAnyH_ready (rs := [13]) (by kernel_rfl) (by simp) ?_
    refine AllReadyH.cons rfl (fun K hK => ?_) AllReadyH.nil
    go_simp
    go_wp2_with (go_at_call 13; (refine (A5.out _ hHeld.1).mono ?_); rintro e wB1 ⟨rfl, bwB1, ywB1, zwB1⟩)
    have hC := hHeld.2.trans (ywB1.mono hHeld.2.size)
    refine hK.out _ _ ?_ (fun hHeld2 => ?_)
    · exact ⟨bwB1, hC⟩
    clear hK K hHeld hHeld2
    have hHeld : Below w10.heap.size w10 wB1 ∧ Below wB1.heap.size wB1 wB1 := ⟨bwB1, zwB1⟩
    refine held_mono (S' := fun W => Below w10.heap.size w10 W ∧ Below wB1.heap.size wB1 W) (fun W hW => ⟨hW.1, hC.trans (hW.2.mono hC.size)⟩) _ _ _ _ ?_
    clear hC
    refine wpAnyH_take (i := 14) (v := ?_) rfl (by kernel_rfl) (by kernel_rfl) (by kernel_rfl) (fun _ _ _ h => h) (Or.inl ⟨by rfl, ?_⟩) (by assumption) ?_
    rotate_left
    · intro W0 hSw; obtain ⟨hSa, hSb⟩ := hSw; go_simp; all_goals (with_reducible rfl)
    try simp only [Act.put, List.getElem_toArray, List.getElem_cons_succ, List.getElem_cons_zero, List.setIfInBounds_toArray, List.set_cons_zero, List.set_cons_succ]
    refine wpAnyH_take (i := 15) (v := ?_) rfl (by kernel_rfl) (by kernel_rfl) (by kernel_rfl) (fun _ _ _ h => h) (Or.inl ⟨by rfl, ?_⟩) (by assumption) ?_
    rotate_left
    · intro W0 hSw; obtain ⟨hSa, hSb⟩ := hSw; go_simp; all_goals (with_reducible rfl)
    try simp only [Act.put, List.getElem_toArray, List.getElem_cons_succ, List.getElem_cons_zero, List.setIfInBounds_toArray, List.set_cons_zero, List.set_cons_succ]
    refine wpAnyH_take (i := 16) (v := ?_) rfl (by kernel_rfl) (by kernel_rfl) (by kernel_rfl) (fun _ _ _ h => h) (Or.inl ⟨by rfl, ?_⟩) (by assumption) ?_
    rotate_left
    · intro W0 hSw; obtain ⟨hSa, hSb⟩ := hSw; go_simp; all_goals (with_reducible rfl)
    try simp only [Act.put, List.getElem_toArray, List.getElem_cons_succ, List.getElem_cons_zero, List.setIfInBounds_toArray, List.set_cons_zero, List.set_cons_succ]
    refine wpAnyH_take (i := 17) (v := ?_) rfl (by kernel_rfl) (by kernel_rfl) (by kernel_rfl) (fun _ _ _ h => h) (Or.inl ⟨by rfl, ?_⟩) (by assumption) ?_
    rotate_left
    · intro W0 hSw; obtain ⟨hSa, hSb⟩ := hSw; go_simp; all_goals (with_reducible rfl)
    try simp only [Act.put, List.getElem_toArray, List.getElem_cons_succ, List.getElem_cons_zero, List.setIfInBounds_toArray, List.set_cons_zero, List.set_cons_succ]
    refine wpAnyH_take (i := 18) (v := ?_) rfl (by kernel_rfl) (by kernel_rfl) (by kernel_rfl) (fun _ _ _ h => h) (Or.inl ⟨by rfl, ?_⟩) (by assumption) ?_
    rotate_left
    · intro W0 hSw; obtain ⟨hSa, hSb⟩ := hSw; go_simp; all_goals (with_reducible rfl)
    try simp only [Act.put, List.getElem_toArray, List.getElem_cons_succ, List.getElem_cons_zero, List.setIfInBounds_toArray, List.set_cons_zero, List.set_cons_succ]
    refine wpAnyH_take (i := 19) (v := ?_) rfl (by kernel_rfl) (by kernel_rfl) (by kernel_rfl) (fun _ _ _ h => h) (Or.inl ⟨by rfl, ?_⟩) (by assumption) ?_
    rotate_left
    · intro W0 hSw; obtain ⟨hSa, hSb⟩ := hSw; go_simp; all_goals (with_reducible rfl)
    try simp only [Act.put, List.getElem_toArray, List.getElem_cons_succ, List.getElem_cons_zero, List.setIfInBounds_toArray, List.set_cons_zero, List.set_cons_succ]
    refine wpAnyH_ready (rs := [20]) (by kernel_rfl) (by simp) ?_
    refine AllReadyH.cons rfl (fun K hK => ?_) AllReadyH.nil
    go_simp
    go_wp2_with (go_at_call 15; (refine (A6.out _ hHeld.1).mono ?_); rintro e wB2 ⟨pwB2, cwB2, rfl, vwB2, bwB2, ywB2, zwB2⟩)
    have hC := hHeld.2.trans (ywB2.mono hHeld.2.size)
    refine hK.out _ _ ?_ (fun hHeld2 => ?_)
    · exact ⟨bwB2, hC⟩
    clear hK K hHeld hHeld2
    have hHeld : Below w10.heap.size w10 wB2 ∧ Below wB2.heap.size wB2 wB2 := ⟨bwB2, zwB2⟩
    refine held_mono (S' := fun W => Below w10.heap.size w10 W ∧ Below wB2.heap.size wB2 W) (fun W hW => ⟨hW.1, hC.trans (hW.2.mono hC.size)⟩) _ _ _ _ ?_
    clear hC
    refine wpAnyH_take (i := 21) (v := ?_) rfl (by kernel_rfl) (by kernel_rfl) (by kernel_rfl) (fun _ _ _ h => h) (Or.inl ⟨by rfl, ?_⟩) (by assumption) ?_
    rotate_left
    · intro W0 hSw; obtain ⟨hSa, hSb⟩ := hSw; go_simp; all_goals (with_reducible rfl)
    try simp only [Act.put, List.getElem_toArray, List.getElem_cons_succ, List.getElem_cons_zero, List.setIfInBounds_toArray, List.set_cons_zero, List.set_cons_succ]
    refine wpAnyH_take (i := 22) (v := ?_) rfl (by kernel_rfl) (by kernel_rfl) (by kernel_rfl) (fun _ _ _ h => h) (Or.inl ⟨by rfl, ?_⟩) (by assumption) ?_
    rotate_left
    · intro W0 hSw; obtain ⟨hSa, hSb⟩ := hSw; go_simp; all_goals (with_reducible rfl)
    try simp only [Act.put, List.getElem_toArray, List.getElem_cons_succ, List.getElem_cons_zero, List.setIfInBounds_toArray, List.set_cons_zero, List.set_cons_succ]
    refine wpAnyH_take (i := 23) (v := ?_) rfl (by kernel_rfl) (by kernel_rfl) (by kernel_rfl) (fun _ _ _ h => h) (Or.inl ⟨by rfl, ?_⟩) (by assumption) ?_
    rotate_left
    · intro W0 hSw; obtain ⟨hSa, hSb⟩ := hSw; go_simp; all_goals (with_reducible rfl)
    try simp only [Act.put, List.getElem_toArray, List.getElem_cons_succ, List.getElem_cons_zero, List.setIfInBounds_toArray, List.set_cons_zero, List.set_cons_succ]
    refine wpAnyH_take (i := 24) (v := ?_) rfl (by kernel_rfl) (by kernel_rfl) (by kernel_rfl) (fun _ _ _ h => h) (Or.inl ⟨by rfl, ?_⟩) (by assumption) ?_
    rotate_left
    · intro W0 hSw; obtain ⟨hSa, hSb⟩ := hSw; go_simp; all_goals (with_reducible rfl)
    try simp only [Act.put, List.getElem_toArray, List.getElem_cons_succ, List.getElem_cons_zero, List.setIfInBounds_toArray, List.set_cons_zero, List.set_cons_succ]
    refine wpAnyH_take (i := 25) (v := ?_) rfl (by kernel_rfl) (by kernel_rfl) (by kernel_rfl) (fun _ _ _ h => h) (Or.inl ⟨by rfl, ?_⟩) (by assumption) ?_
    rotate_left
    · intro W0 hSw; obtain ⟨hSa, hSb⟩ := hSw; go_simp; all_goals (with_reducible rfl)
    try simp only [Act.put, List.getElem_toArray, List.getElem_cons_succ, List.getElem_cons_zero, List.setIfInBounds_toArray, List.set_cons_zero, List.set_cons_succ]
    refine wpAnyH_take (i := 26) (v := ?_) rfl (by kernel_rfl) (by kernel_rfl) (by kernel_rfl) (fun _ _ _ h => h) (Or.inl ⟨by rfl, ?_⟩) (by assumption) ?_
    rotate_left
    · intro W0 hSw; obtain ⟨hSa, hSb⟩ := hSw; go_simp; all_goals (with_reducible rfl)
    try simp only [Act.put, List.getElem_toArray, List.getElem_cons_succ, List.getElem_cons_zero, List.setIfInBounds_toArray, List.set_cons_zero, List.set_cons_succ]
    refine wpAnyH_take (i := 27) (v := ?_) rfl (by kernel_rfl) (by kernel_rfl) (by kernel_rfl) (fun _ _ _ h => h) (Or.inl ⟨by rfl, ?_⟩) (by assumption) ?_
    rotate_left
    · intro W0 hSw; obtain ⟨hSa, hSb⟩ := hSw; go_simp; all_goals (with_reducible rfl)
    try simp only [Act.put, List.getElem_toArray, List.getElem_cons_succ, List.getElem_cons_zero, List.setIfInBounds_toArray, List.set_cons_zero, List.set_cons_succ]
    refine wpAnyH_take (i := 28) (v := ?_) rfl (by kernel_rfl) (by kernel_rfl) (by kernel_rfl) (fun _ _ _ h => h) (Or.inl ⟨by rfl, ?_⟩) (by assumption) ?_
    rotate_left
    · intro W0 hSw; obtain ⟨hSa, hSb⟩ := hSw; go_simp; all_goals (with_reducible rfl)
    try simp only [Act.put, List.getElem_toArray, List.getElem_cons_succ, List.getElem_cons_zero, List.setIfInBounds_toArray, List.set_cons_zero, List.set_cons_succ]
    refine wpAnyH_ready (rs := [29]) (by kernel_rfl) (by simp) ?_
    refine AllReadyH.cons rfl (fun K hK => ?_) AllReadyH.nil
    go_simp
    go_wp2_with (go_at_call 15; (refine (A7.out _ hHeld.1).mono ?_); rintro e wB3 ⟨pwB3, cwB3, rfl, vwB3, bwB3, ywB3, zwB3⟩)
    have hC := hHeld.2.trans (ywB3.mono hHeld.2.size)
    refine hK.out _ _ ?_ (fun hHeld2 => ?_)
    · exact ⟨bwB3, hC⟩
    clear hK K hHeld hHeld2
    have hHeld : Below w10.heap.size w10 wB3 ∧ Below wB3.heap.size wB3 wB3 := ⟨bwB3, zwB3⟩
    refine held_mono (S' := fun W => Below w10.heap.size w10 W ∧ Below wB3.heap.size wB3 W) (fun W hW => ⟨hW.1, hC.trans (hW.2.mono hC.size)⟩) _ _ _ _ ?_
    clear hC
    refine wpAnyH_take (i := 30) (v := ?_) rfl (by kernel_rfl) (by kernel_rfl) (by kernel_rfl) (fun _ _ _ h => h) (Or.inl ⟨by rfl, ?_⟩) (by assumption) ?_
    rotate_left
    · intro W0 hSw; obtain ⟨hSa, hSb⟩ := hSw; go_simp; all_goals (with_reducible rfl)
    try simp only [Act.put, List.getElem_toArray, List.getElem_cons_succ, List.getElem_cons_zero, List.setIfInBounds_toArray, List.set_cons_zero, List.set_cons_succ]
    refine wpAnyH_take (i := 31) (v := ?_) rfl (by kernel_rfl) (by kernel_rfl) (by kernel_rfl) (fun _ _ _ h => h) (Or.inl ⟨by rfl, ?_⟩) (by assumption) ?_
    rotate_left
    · intro W0 hSw; obtain ⟨hSa, hSb⟩ := hSw; go_simp; all_goals (with_reducible rfl)
    try simp only [Act.put, List.getElem_toArray, List.getElem_cons_succ, List.getElem_cons_zero, List.setIfInBounds_toArray, List.set_cons_zero, List.set_cons_succ]
    refine wpAnyH_take (i := 32) (v := ?_) rfl (by kernel_rfl) (by kernel_rfl) (by kernel_rfl) (fun _ _ _ h => h) (Or.inl ⟨by rfl, ?_⟩) (by assumption) ?_
    rotate_left
    · intro W0 hSw; obtain ⟨hSa, hSb⟩ := hSw; go_simp; all_goals (with_reducible rfl)
    try simp only [Act.put, List.getElem_toArray, List.getElem_cons_succ, List.getElem_cons_zero, List.setIfInBounds_toArray, List.set_cons_zero, List.set_cons_succ]
    refine wpAnyH_take (i := 33) (v := ?_) rfl (by kernel_rfl) (by kernel_rfl) (by kernel_rfl) (fun _ _ _ h => h) (Or.inl ⟨by rfl, ?_⟩) (by assumption) ?_
    rotate_left
    · intro W0 hSw; obtain ⟨hSa, hSb⟩ := hSw; go_simp; all_goals (with_reducible rfl)
    try simp only [Act.put, List.getElem_toArray, List.getElem_cons_succ, List.getElem_cons_zero, List.setIfInBounds_toArray, List.set_cons_zero, List.set_cons_succ]
    refine wpAnyH_done (by kernel_rfl) ?_ _
    go_wp2_with fail
    go_ret
    exact ⟨rfl, HB.out.trans (hHeld.1.mono HB.out.size)⟩

end Go.Proofs.YthiaflnlmabikaaDoor.textsBack
