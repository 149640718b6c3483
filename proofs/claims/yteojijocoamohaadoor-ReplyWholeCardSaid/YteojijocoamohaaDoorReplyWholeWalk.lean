/-
  'tipstafflaw05.ReplyWhole': for all bytes and texts it answers true.
-/
import Derived.Test.YteojijocoamohaaDoorReplyFew
import Derived.Deep.QuietTactic
namespace Go.Proofs.YteojijocoamohaaDoor.replyWhole
open Go.RowKit Kit BytesIn ReplyMath ReplyT ReplyM ReplyL NumMath NumL
set_option linter.unusedVariables false
set_option maxRecDepth 100000
-- ASKS: ReplyM.Gx
-- NIL

theorem ok_slice {w : World} {v : Value} {l : List UInt8} (h : Ok w v l) (n : Nat) (hn : l.length = n) : ∃ p c, v = .slice p n c ∧ Bs w p l ∧ n ≤ c ∧ c ≤ 9223372036854775807 ∧ (p = none → c = 0) := by
  subst hn
  exact h

set_option maxHeartbeats 1500000 in
theorem walk (p : Option Addr) (l : List UInt8) (n c : Nat) (s : ByteArray) (w : World) (hn : l.length = n) (hb : Bs w p l) (hc : n ≤ c) (hcm : c ≤ 9223372036854775807) (hnil : p = none → c = 0) (hs : s.size ≤ 140737488351232) (hg : Gx w) :
    Calls Tryd.prog 7 #[.slice p n c, .string s] w fun e w' => e = .returned (.bool true) ∧ Below w.heap.size w w' := by
  have HG := Lib.hid hg
  have CS := Lib.hid (shown_any w hg)
  obtain ⟨M, hM⟩ : ∃ M, M = min n 400 := ⟨_, rfl⟩
  have hM4 : M ≤ 400 := by omega
  have hMn : M ≤ n := by omega
  have hmin : min (n : Int) 400 = (M : Int) := by omega
  have q1 := fun W => sl_h p n c M (by omega) W
  have HB := Lib.hid (show Bs w (ReplyT.partAt p c 0) (l.take M) by
    have h := partAt_bs (c := c) hb (by rw [hn]; exact hc) 0 M (by omega)
    rwa [List.drop_zero, Nat.sub_zero] at h)
  have HNil := Lib.hid (show ReplyT.partAt p c 0 = none → c = 0 from fun h => by have := ReplyT.partAt_none hnil h; omega)
  obtain ⟨l2, hl2⟩ : ∃ l2, l2 = l.take M := ⟨_, rfl⟩
  have HL2 := Lib.hid (show l2.length = M by rw [hl2, List.length_take]; omega)
  obtain ⟨p2, hp2⟩ : ∃ p2, p2 = ReplyT.partAt p c 0 := ⟨_, rfl⟩
  rw [← hl2, ← hp2] at HB
  rw [← hp2] at HNil q1
  obtain ⟨T, hT⟩ : ∃ T : ByteArray, T = ⟨(s.data.toList.take 100).toArray⟩ := ⟨_, rfl⟩
  have HTz := Lib.hid (show T.size ≤ 100 by rw [hT, size_bytes, List.length_take]; omega)
  have CSh := Lib.hid (fun W => (show Calls Tryd.prog 9 #[.string s] W (fun e w' => e = .returned (.string T) ∧ W = w') by rw [hT]; exact short_any s W hs))
  clear hb hn hnil hM hl2 hp2 hT hg
  go_enter Tryd.func7, Tryd.ntmps7
  go_wp2_with fail
  with_reducible refine CS.out.mono ?_
  rintro e w1 ⟨rfl, hb1⟩
  have HB1 := Lib.hid hb1
  have HBl := Lib.hid (HB.out.keep hb1)
  have CT := Lib.hid (take_any p2 l2 M c w1 HL2.out HBl.out (by omega) hcm (by omega) HNil.out (HG.out.keep hb1))
  clear hb1 CS HB
  go_wp2_with fail
  with_reducible refine CT.out.mono ?_
  intro e w2 hp
  have HP := Lib.hid hp
  clear hp CT
  rcases HP.out with ⟨hb2, ⟨x, r, v, u, hxr, hsk, rfl, hv, hu⟩ | ⟨hno, v, u, rfl, hv, hu⟩⟩
  · obtain ⟨x', hx', hx3, hrep⟩ := skips_reply hsk
    have hxx : x' = x := List.append_cancel_right (hx'.symm.trans hxr)
    subst hxx
    have HRep := Lib.hid hrep
    have HX := Lib.hid hxr
    obtain ⟨nx, hnx⟩ : ∃ nx, x'.length = nx := ⟨_, rfl⟩
    obtain ⟨nr, hnr⟩ : ∃ nr, r.length = nr := ⟨_, rfl⟩
    have hsum : nx + nr = M := by rw [← hnx, ← hnr, ← List.length_append, ← hxr]; exact HL2.out
    have hx2 : 3 ≤ nx := by omega
    have hx4 : nx ≤ 400 := by omega
    have hr4 : nr ≤ 400 := by omega
    obtain ⟨px, cx, rfl, hBx, hcx, hcmx, hnlx⟩ := ok_slice hv.ok nx hnx
    obtain ⟨pr, cr, rfl, hBr, -⟩ := ok_slice hu.ok nr hnr
    have HB2 := Lib.hid (HB1.out.trans (hb2.mono HB1.out.size))
    have HBl2 := Lib.hid (HBl.out.keep hb2)
    have HBx := Lib.hid hBx
    have HBr := Lib.hid hBr
    have HNx := Lib.hid hnx
    have HNr := Lib.hid hnr
    have HNlx := Lib.hid hnlx
    have t1 : decide ((2 : Int) < (nx : Int)) = true := decide_eq_true (by omega)
    have CT2 := Lib.hid (take_yes px x' [] nx cx w2 HRep.out (by rw [hnx]; rfl) (by rw [List.append_nil]; exact HBx.out) hcx hcmx (by omega) hnlx (HG.out.keep HB2.out))
    have hcv := fun W C n c => run_const W C n c
    clear hb2 hxr hsk hv hu hx' hx3 hrep hBx hBr hnx hnr hnlx HB1 HBl HP hsum
    go_wp2_with fail
    with_reducible refine CT2.out.mono ?_
    rintro e w3 ⟨⟨vy, vn, rfl, hvy, hvn⟩, hb3⟩
    obtain ⟨py, cy, rfl, hBy, -⟩ := ok_slice hvy.ok nx HNx.out
    obtain ⟨pn, cn, rfl, -⟩ := ok_slice hvn.ok 0 rfl
    have HB3 := Lib.hid (HB2.out.trans (hb3.mono HB2.out.size))
    have HBl3 := Lib.hid (HBl2.out.keep hb3)
    have HBx3 := Lib.hid (HBx.out.keep hb3)
    have HBr3 := Lib.hid (HBr.out.keep hb3)
    have HBy3 := Lib.hid hBy
    have HOG := Lib.hid (own_lit w3 [120] 1 rfl (by decide))
    have HBG := Lib.hid (below1 w3 (.cells (bv [120]).toArray 5 (1, 2)))
    clear hvy hvn hb3 hBy CT2 HB2 HBl2 HBx HBr
    go_wp2_with (at_builtin; refine wpList_append_g (w0 := w3) rfl (.tmp 51) (.tmp 52) rfl _ [120] rfl HOG.out HBG.out p2 l2 M c rfl HL2.out (HBl3.out.keep HBG.out) HNil.out (by simp; omega) (120 :: l2) rfl ?_; intro v4 w4 ho4 hb4; obtain ⟨p4, c4, rfl, hB4, hc4, hcm4, hn4⟩ := ok_slice ho4.ans.ok (M + 1) (by rw [List.length_cons, HL2.out]))
    have HB4 := Lib.hid (HB3.out.trans (hb4.mono HB3.out.size))
    have CT3 := Lib.hid (take_no p4 (120 :: l2) (M + 1) c4 w4 (fun r => odd_none 120 (by decide) l2 r) (by rw [List.length_cons, HL2.out]) hB4 hc4 hcm4 (by omega) hn4 (HG.out.keep HB4.out))
    have HBl4 := Lib.hid (HBl3.out.keep hb4)
    have HBx4 := Lib.hid (HBx3.out.keep hb4)
    have HBr4 := Lib.hid (HBr3.out.keep hb4)
    have HBy4 := Lib.hid (HBy3.out.keep hb4)
    clear ho4 hb4 hB4 hc4 hcm4 hn4 HOG HBG HB3 HBl3 HBx3 HBr3 HBy3
    with_reducible refine CT3.out.mono ?_
    rintro e w5 ⟨⟨vo, vp, rfl, hvo, hvp⟩, hb5⟩
    have HB5 := Lib.hid (HB4.out.trans (hb5.mono HB4.out.size))
    have HBl5 := Lib.hid (HBl4.out.keep hb5)
    have HBx5 := Lib.hid (HBx4.out.keep hb5)
    have HBr5 := Lib.hid (HBr4.out.keep hb5)
    have HBy5 := Lib.hid (HBy4.out.keep hb5)
    have HO0 := Lib.hid (Own.new w5)
    have HB0 := Lib.hid (below1 w5 (.cells #[] 5))
    clear hvo hvp hb5 CT3 HB4 HBl4 HBx4 HBr4 HBy4
    go_wp2_with (at_builtin; refine wpList_append_bs (w0 := w5) rfl (.tmp 59) (.tmp 60) rfl _ [] rfl HO0.out HB0.out px x' nx cx rfl HNx.out (HBx5.out.keep HB0.out) HNlx.out (by simp; omega) x' rfl ?_; intro v6 w6 ho6 hb6)
    with_reducible refine (CSh.out _).mono ?_
    rintro e w' ⟨rfl, rfl⟩
    go_wp2_with (at_builtin; refine wpList_append_str (w0 := w5) rfl (.tmp 61) (.tmp 63) rfl _ x' rfl ho6 hb6 T rfl (by have := HTz.out; rw [HNx.out]; omega) ?_; intro v7 w7 ho7 hb7; obtain ⟨p7, c7, rfl, hB7, hc7, hcm7, hn7⟩ := ok_slice ho7.ans.ok (nx + T.size) (by rw [List.length_append, HNx.out, str_len]))
    have HB7 := Lib.hid (HB5.out.trans (hb7.mono HB5.out.size))
    have CT4 := Lib.hid (take_yes p7 x' T.data.toList (nx + T.size) c7 w7 HRep.out (by rw [HNx.out, str_len]) hB7 hc7 hcm7 (by have := HTz.out; omega) hn7 (HG.out.keep HB7.out))
    have HBl7 := Lib.hid (HBl5.out.keep hb7)
    have HBx7 := Lib.hid (HBx5.out.keep hb7)
    have HBr7 := Lib.hid (HBr5.out.keep hb7)
    have HBy7 := Lib.hid (HBy5.out.keep hb7)
    clear ho6 hb6 ho7 hb7 hB7 hc7 hcm7 hn7 HO0 HB0 HB5 HBl5 HBx5 HBr5 HBy5
    with_reducible refine CT4.out.mono ?_
    rintro e w8 ⟨⟨vz, vm, rfl, hvz, hvm⟩, hb8⟩
    obtain ⟨pz, cz, rfl, hBz, -⟩ := ok_slice hvz.ok nx HNx.out
    obtain ⟨pm, cm, rfl, hBm, -⟩ := ok_slice hvm.ok T.size (str_len T)
    have HB8 := Lib.hid (HB7.out.trans (hb8.mono HB7.out.size))
    obtain ⟨XS, hXS⟩ : ∃ XS : ByteArray, XS = ⟨x'.toArray⟩ := ⟨_, rfl⟩
    obtain ⟨RS, hRS⟩ : ∃ RS : ByteArray, RS = ⟨r.toArray⟩ := ⟨_, rfl⟩
    have hz1 : XS.size ≤ 400 := by rw [hXS, size_bytes, HNx.out]; exact hx4
    have hz2 : RS.size ≤ 400 := by rw [hRS, size_bytes, HNr.out]; exact hr4
    have hz3 : ¬ (9223372036854775807 < XS.size + RS.size) := by omega
    have hLS : (⟨l2.toArray⟩ : ByteArray) = XS ++ RS := same_bytes (by rw [hXS, hRS, HX.out]; simp)
    have cv1 : ∀ z, (convert 23 9 (.slice px nx cx)).run Tryd.prog (w8.drewN z) = .ok (.string XS) (w8.drewN z) := fun z => by rw [hXS]; exact bs_string (w := w8.drewN z) (HBx7.out.keep (below_drewN hb8 z)) nx cx HNx.out.symm
    have cv2 : ∀ z, (convert 23 9 (.slice pr nr cr)).run Tryd.prog (w8.drewN z) = .ok (.string RS) (w8.drewN z) := fun z => by rw [hRS]; exact bs_string (w := w8.drewN z) (HBr7.out.keep (below_drewN hb8 z)) nr cr HNr.out.symm
    have cv3 : ∀ z, (convert 23 9 (.slice p2 M c)).run Tryd.prog (w8.drewN z) = .ok (.string (XS ++ RS)) (w8.drewN z) := fun z => by rw [← hLS]; exact bs_string (w := w8.drewN z) (HBl7.out.keep (below_drewN hb8 z)) M c HL2.out.symm
    have cv4 : ∀ z, (convert 23 9 (.slice py nx cy)).run Tryd.prog (w8.drewN z) = .ok (.string XS) (w8.drewN z) := fun z => by rw [hXS]; exact bs_string (w := w8.drewN z) (HBy7.out.keep (below_drewN hb8 z)) nx cy HNx.out.symm
    have cv5 : ∀ z, (convert 23 9 (.slice pz nx cz)).run Tryd.prog (w8.drewN z) = .ok (.string XS) (w8.drewN z) := fun z => by rw [hXS]; exact bs_string (w := w8.drewN z) hBz nx cz HNx.out.symm
    have cv6 : ∀ z, (convert 23 9 (.slice pm T.size cm)).run Tryd.prog (w8.drewN z) = .ok (.string T) (w8.drewN z) := fun z => by
      have h := bs_string (w := w8.drewN z) hBm T.size cm (str_len T).symm
      rwa [str_self] at h
    have CQ := Lib.hid (fun z => (show Calls Tryd.prog 9 #[.string s] (w8.drewN z) (fun e w' => e = .returned (.string T) ∧ w' = w8.drewN z) from (CSh.out _).mono (by rintro e w' ⟨h1, h2⟩; exact ⟨h1, h2.symm⟩)))
    clear hvz hvm hb8 hBz hBm hXS hRS hLS CT4 HB7 HBl7 HBx7 HBr7 HBy7
    go_wp2_with fail
    go_quiet ((go_at_call 9; exact Calls.quiet_of_same (CQ.out _)))
    go_wp2_with fail
    go_ret
    exact ⟨rfl, below_drewN HB8.out _⟩
  · obtain ⟨px, cx, rfl, -⟩ := ok_slice hv.ok 0 rfl
    obtain ⟨pr, cr, rfl, -⟩ := ok_slice hu.ok 0 rfl
    have HB2 := Lib.hid (HB1.out.trans (hb2.mono HB1.out.size))
    clear hb2 hno hv hu HP
    go_wp2_with fail
    go_ret
    exact ⟨rfl, HB2.out⟩

end Go.Proofs.YteojijocoamohaaDoor.replyWhole
