/-
  The landed code of package texts: Do, of get, getdel, append.
-/
import Derived.Test.YthiaflnlmabikaaDoorTxtAll
namespace Go.Proofs.YthiaflnlmabikaaDoor.TxtM
open Go.RowKit Kit StrT RowG BOrd ValT StoT ReplyT ReplyMath ValM BytesIn DoT Low MapT LstT TxtT NumL NumW ReplyM
open RefTab (results_cell_slot)
set_option linter.unusedVariables false
set_option maxRecDepth 100000


set_option maxHeartbeats 8000000 in
theorem do_get (p : PV) (q : Option Addr) (L : List (List UInt8)) (n c : Nat) (w : World) (hp : p.In w) (hS : p.S.size ≤ 1048576) (hg : Gd w) (hn : L.length = n) (hm3 : 2 ≤ n) (hs : StrT.Ss w q L) (hw : ∀ j, (wd L j).length ≤ 140737488351232) (hnm : nmL L = [103, 101, 116]) (hk : p.d.kind = 0 ∨ p.d.kind = 1) :
    Calls Tryd.prog 12 #[p.agg, .slice q n c] w (DoP (fun _ => False) (deedD 0 p.d L).1 (deedD 0 p.d L).2 w) := by
  obtain ⟨nm, hnmd⟩ : ∃ nm : List UInt8, nm = [103, 101, 116] := ⟨_, rfl⟩
  have hV : ∀ Z, getM deedsL nm Z = .agg #[.int .i64 2, .func (.func 32) #[] #[]] := fun Z => by rw [hnmd]; kernel_rfl
  rw [← hnmd] at hnm
  have hm : (2 : Int) ≤ (n : Int) := by omega
  clear hnmd
  obtain ⟨k, S, ql, nl, cl, qh, nh, ch, qz, nz, cz, d⟩ := p
  have CO := Lib.hid (fun W (h : Below w.heap.size w W) => own_pv k S ql nl cl qh nh ch qz nz cz d W (pv_keep hp h))
  have HSd := Lib.hid (show S.data.toList = d.s from VIn.es hp)
  have hSz : S.size ≤ 1048576 := hS
  have HSs := Lib.hid (show d.s.length ≤ 1048576 by rw [← HSd.out, str_len]; exact hSz)
  have HG := Lib.hid (fun W (h : Below w.heap.size w W) => hg.keep h)
  have HD := Lib.hid (DB.new w #[.int .u8 k, .string S, .slice ql nl cl, .slice qh nh ch, .slice qz nz cz] #[.int .u8 0, .string ⟨#[]⟩, .slice none 0 0, .slice none 0 0, .slice none 0 0])
  obtain ⟨T, hT⟩ : ∃ T : ByteArray, T = ⟨(wd L 0).toArray⟩ := ⟨_, rfl⟩
  have hTz : T.size ≤ maxLen := by rw [hT, size_bytes]; unfold maxLen; exact Nat.le_trans (hw 0) (by decide)
  have HTd := Lib.hid (show lowL T.data.toList = nm by rw [hT]; exact hnm)
  obtain ⟨b, off, rfl, hbl, hc⟩ := ss_word hs 0 (by omega)
  rw [← hT, Nat.add_zero] at hc
  have HC := Lib.hid (fun W (h : Below w.heap.size w W) => (h.cell (p := ⟨b, off, none⟩) hbl).trans hc)
  have HSt := Lib.hid (fun W (h : Below w.heap.size w W) => hs.keep h)
  have n0 : (0 : Int) < (n : Int) := by omega
  have n00 : 0 < n := by omega
  have n1 : ((n : Int) == 0) = false := by rw [beq_eq_false_iff_ne]; omega
  have n3 : decide ((n : Int) < 2) = false := decide_eq_false (by omega)
  have CD := Lib.hid (fun W => deeds_bm W)
  have CL := Lib.hid (fun W => LowN.lower_any T W hTz)
  rw [HTd.out] at CL
  have HLk := Lib.hid (fun (W : World) (bm : Nat) (h : MapAt W bm deedsL) => lookup_ok Tryd.underlying61 Tryd.underlying9 h ⟨nm.toArray⟩ (.agg #[.int .i64 2, .func (.func 32) #[] #[]]) hV)
  have HW := Lib.hid hw
  have HK := Lib.hid hk
  show Calls Tryd.prog 12 #[.agg #[.int .u8 k, .string S, .slice ql nl cl, .slice qh nh ch, .slice qz nz cz], .slice (some ⟨b, off, none⟩) n c] w _
  clear hp hS hg hT hnm hs hc hw HTd hV
  go_enter Tryd.func12, Tryd.ntmps12
  go_wp2_with fail
  generalize ((w.alloc _).alloc _) = W2 at HD ⊢
  with_reducible refine (CO.out _ HD.out.bl).mono ?_
  rintro e w3 ⟨p1, rfl, hI, hd, ha, hb3⟩
  obtain ⟨k1, S1, ql1, nl1, cl1, qh1, nh1, ch1, qz1, nz1, cz1, d1⟩ := p1
  dsimp only [PV.agg]
  obtain rfl : d1 = d := hd
  rename V => d
  have HCs := Lib.hid (show (Tryd.prog.info? 26).map (·.size) = some (#[.int .u8 k1, .string S1, .slice ql1 nl1 cl1, .slice qh1 nh1 ch1, .slice qz1 nz1 cz1] : Array Value).size from val_size)
  have HOn := Lib.hid (show (#[.int .u8 k1, .string S1, .slice ql1 nl1 cl1, .slice qh1 nh1 ch1, .slice qz1 nz1 cz1] : Array Value).all (·.oneCell') = true by simp [Value.oneCell'])
  have HD3 := Lib.hid (HD.out.keep hb3)
  have HA3 := Lib.hid (show ∀ j, PV.at_ ⟨k1, S1, ql1, nl1, cl1, qh1, nh1, ch1, qz1, nz1, cz1, d⟩ j → w.heap.size + 1 < j from fun j hj => by have := ha j hj; have := HD.out.sz; omega)
  have HI3 := Lib.hid (show PV.In (w3.setRow w.heap.size #[.int .u8 k1, .string S1, .slice ql1 nl1 cl1, .slice qh1 nh1 ch1, .slice qz1 nz1 cz1]) ⟨k1, S1, ql1, nl1, cl1, qh1, nh1, ch1, qz1, nz1, cz1, d⟩ from PV.In.same hI (by simp) (fun j hj => setRow_other _ _ _ _ (by have := HA3.out j hj; omega)))
  have HD4 := Lib.hid (HD3.out.setBox #[.int .u8 k1, .string S1, .slice ql1 nl1 cl1, .slice qh1 nh1 ch1, .slice qz1 nz1 cz1])
  clear hb3 hI ha CO HD
  go_upto_region 4 with (with_reducible refine wpList_store_row rfl 26 (.tmp 2) (.tmp 9) rfl w.heap.size #[.int .u8 k1, .string S1, .slice ql1 nl1 cl1, .slice qh1 nh1 ch1, .slice qz1 nz1 cz1] rfl rfl 26 _ HD3.out.bx HCs.out rfl HOn.out ?_)
  clear HD3
  generalize w3.setRow w.heap.size #[.int .u8 k1, .string S1, .slice ql1 nl1 cl1, .slice qh1 nh1 ch1, .slice qz1 nz1 cz1] = w4 at HD4 HI3 ⊢
  have hc4 := HC.out _ HD4.out.bl
  have hc4a := HC.out _ (HD4.out.bl.alloc HD4.out.bl.size (.cells #[.int .i64 0, .nilFunc] 59))
  have hc4b := HC.out _ (HD4.out.bl.drew.alloc HD4.out.bl.size (.cells #[.int .i64 0, .nilFunc] 59))
  have HQ4 := Lib.hid (pv_lt HI3.out)
  have HS4 := Lib.hid HD4.out.sz
  go_cut [6, 7] (fun s6 s7 wx => ∃ gd, s6 = .pointer (some ⟨gd, 0, none⟩) ∧ s7 = .bool true ∧ Hid (Fnd w wx gd 2 32 #[.int .u8 k1, .string S1, .slice ql1 nl1 cl1, .slice qh1 nh1 ch1, .slice qz1 nz1 cz1] #[.int .u8 0, .string ⟨#[]⟩, .slice none 0 0, .slice none 0 0, .slice none 0 0] ⟨k1, S1, ql1, nl1, cl1, qh1, nh1, ch1, qz1, nz1, cz1, d⟩))
  case first =>
   go_region_law (first
    | (go_simp; (with_reducible refine (CD.out _).mono ?_); rintro e w5 ⟨bm, rfl, hM, hb5⟩; dsimp only
       have hb5' : Below w4.heap.size w4 w5 := by first | exact hb5 | exact b_dr hb5 | exact b_al hb5 | exact b_da hb5
       have HM5 := Lib.hid hM
       have HD5 := Lib.hid (HD4.out.keep hb5')
       have HI5 := Lib.hid (pv_keep HI3.out hb5')
       have hc5 := HC.out _ HD5.out.bl
       have hc5a := HC.out _ (HD5.out.bl.alloc HD5.out.bl.size (.cells #[.int .i64 0, .nilFunc] 59))
       first
         | (have HZ5 := Lib.hid (show DZ w5 w4.heap.size from dz_al hb5); have HL5 := Lib.hid hb5'.size)
         | (have HZ5 := Lib.hid (show DZ w5 w4.heap.size from dz_da hb5); have HL5 := Lib.hid hb5'.size)
         | (have HL5 := Lib.hid hb5'.size)
       clear hM hb5 hb5')
    | (go_simp; (with_reducible refine (CL.out _).mono ?_); rintro e w6 ⟨rfl, hb6⟩; dsimp only
       have hb6' : Below w5.heap.size w5 w6 := by first | exact hb6 | exact b_dr hb6 | exact b_al hb6 | exact b_da hb6
       have HM6 := Lib.hid (HM5.out.keep hb6')
       have hlk := HLk.out w6 _ HM6.out
       have hlk2 := HLk.out _ _ (HM6.out.keep (Kit.below1 w6 (.cells #[.int .i64 0, .nilFunc] 59)))
       have HD6 := Lib.hid (HD5.out.keep hb6')
       have HI6 := Lib.hid (pv_keep HI5.out hb6')
       first
         | (have HF := Lib.hid (show Fnd w (dset w6 w4.heap.size 2 32) w4.heap.size 2 32 _ _ _ from fnd_set (HZ5.out.keep hb6') (by have := HS4.out; omega) HQ4.out HD6.out HI6.out)
            have hzc := HZ5.out.keep hb6'
            obtain ⟨z0, z1, y0, y1⟩ := dz_facts hzc
            clear hzc)
         | (have hzc : DZ w6 w5.heap.size := by first | exact dz_al hb6 | exact dz_da hb6
            have HF := Lib.hid (show Fnd w (dset w6 w5.heap.size 2 32) w5.heap.size 2 32 _ _ _ from fnd_set hzc (by have := HS4.out; have := HL5.out; omega) (fun j hj => Nat.lt_of_lt_of_le (HQ4.out j hj) HL5.out) HD6.out HI6.out)
            obtain ⟨z0, z1, y0, y1⟩ := dz_facts hzc
            clear hzc)
         | (have HF := Lib.hid (fnd_al (m := 2) (fu := 32) HD6.out HI6.out))
       clear hb6 hb6'))
   all_goals
    go_wp2_with fail
    go_meet
    exact ⟨_, rfl, rfl, HF⟩
  case rest =>
  obtain ⟨gd, rfl, rfl, HF⟩ := hcut
  clear HD4 HI3 hc4 hc4a hc4b HQ4 HS4 CD CL HLk HC
  rename World => W2
  have HD := Lib.hid HF.out.db
  have HI := Lib.hid HF.out.pv
  have d0 := HF.out.d0
  have d1 := HF.out.d1
  clear HF
  obtain ⟨-, -, b0, b1, b2, b3, b4⟩ := HD.out.room
  have hS1 : S1.size ≤ 1048576 := by rw [← str_len, show S1.data.toList = d.s from VIn.es HI.out]; exact HSs.out
  have hK : k1 = (d.kind : Int) := VIn.ek HI.out
  have C := Lib.hid (show Calls Tryd.prog 32 #[.agg #[.int .u8 k1, .string S1, .slice ql1 nl1 cl1, .slice qh1 nh1 ch1, .slice qz1 nz1 cz1], .slice (some ⟨b, off, none⟩) n c] W2 (DoP (PV.at_ ⟨k1, S1, ql1, nl1, cl1, qh1, nh1, ch1, qz1, nz1, cz1, d⟩) (deedD 0 d L).1 (deedD 0 d L).2 W2) from get_any ⟨k1, S1, ql1, nl1, cl1, qh1, nh1, ch1, qz1, nz1, cz1, d⟩ (.slice (some ⟨b, off, none⟩) n c) W2 HI.out hS1 (HG.out _ HD.out.bl).gt)
  have tt : (k1 != 0) = false ∨ (k1 != 0) = true ∧ (k1 != 1) = false := by
    rcases HK.out with h | h
    · left; rw [hK, show d.kind = 0 from h]; rfl
    · right; rw [hK, show d.kind = 1 from h]; exact ⟨rfl, rfl⟩
  clear hK
  rcases tt with t0 | ⟨t0, t1⟩
  all_goals
    go_wp2_with fail
    with_reducible refine C.out.mono ?_
    rintro e w4 ⟨p2, vr, rfl, hI2, hd2, ha2, hA, hb4⟩
    obtain ⟨k2, S2, ql2, nl2, cl2, qh2, nh2, ch2, qz2, nz2, cz2, d2⟩ := p2
    dsimp only [PV.agg]
    have HD4 := Lib.hid (HD.out.keep hb4)
    have HA4 := Lib.hid hA
    have HI4 := Lib.hid hI2
    have HE4 := Lib.hid (show d2 = _ from hd2)
    have HT4 := Lib.hid ha2
    have HCs2 := Lib.hid (show (Tryd.prog.info? 26).map (·.size) = some (#[.int .u8 k2, .string S2, .slice ql2 nl2 cl2, .slice qh2 nh2 ch2, .slice qz2 nz2 cz2] : Array Value).size from val_size)
    have HOn2 := Lib.hid (show (#[.int .u8 k2, .string S2, .slice ql2 nl2 cl2, .slice qh2 nh2 ch2, .slice qz2 nz2 cz2] : Array Value).all (·.oneCell') = true by simp [Value.oneCell'])
    clear hA hb4 hI2 hd2 ha2
    go_wp2_with (with_reducible refine wpList_store_row rfl 26 (.tmp 4) (.tmp 48) rfl (w.heap.size + 1) #[.int .u8 k2, .string S2, .slice ql2 nl2 cl2, .slice qh2 nh2 ch2, .slice qz2 nz2 cz2] rfl rfl 26 _ HD4.out.re HCs2.out rfl HOn2.out ?_)
    exact bodyPost_ret (results_cell_slot rfl _ _ (w.heap.size + 1) 26 #[.int .u8 k2, .string S2, .slice ql2 nl2 cl2, .slice qh2 nh2 ch2, .slice qz2 nz2 cz2] (0, 0) _ vr rfl (setRow_heap w4 (w.heap.size + 1) _ _ _ _ HD4.out.re) Tryd.underlying26 rfl HCs2.out rfl) rfl (do_row HD4.out ⟨k2, S2, ql2, nl2, cl2, qh2, nh2, ch2, qz2, nz2, cz2, d2⟩ _ _ _ _ vr HI4.out HE4.out (fun j hj => Or.inr (by rcases HT4.out j hj with h | h; (have := HA3.out j h; omega); (have := HD.out.sz; omega))) (fun j hj => by rcases HT4.out j hj with h | h; (have := HA3.out j h; omega); (have := HD.out.sz; omega)) HA4.out (by have := HD.out.sz; omega) _)


end Go.Proofs.YthiaflnlmabikaaDoor.TxtM
namespace Go.Proofs.YthiaflnlmabikaaDoor.TxtM
open Go.RowKit Kit StrT RowG BOrd ValT StoT ReplyT ReplyMath ValM BytesIn DoT Low MapT LstT TxtT NumL NumW ReplyM
open RefTab (results_cell_slot)
set_option linter.unusedVariables false
set_option maxRecDepth 100000


set_option maxHeartbeats 8000000 in
theorem do_getDel (p : PV) (q : Option Addr) (L : List (List UInt8)) (n c : Nat) (w : World) (hp : p.In w) (hS : p.S.size ≤ 1048576) (hg : Gd w) (hn : L.length = n) (hm3 : 2 ≤ n) (hs : StrT.Ss w q L) (hw : ∀ j, (wd L j).length ≤ 140737488351232) (hnm : nmL L = [103, 101, 116, 100, 101, 108]) (hk : p.d.kind = 0 ∨ p.d.kind = 1) :
    Calls Tryd.prog 12 #[p.agg, .slice q n c] w (DoP (fun _ => False) (deedD 1 p.d L).1 (deedD 1 p.d L).2 w) := by
  obtain ⟨nm, hnmd⟩ : ∃ nm : List UInt8, nm = [103, 101, 116, 100, 101, 108] := ⟨_, rfl⟩
  have hV : ∀ Z, getM deedsL nm Z = .agg #[.int .i64 2, .func (.func 33) #[] #[]] := fun Z => by rw [hnmd]; kernel_rfl
  rw [← hnmd] at hnm
  have hm : (2 : Int) ≤ (n : Int) := by omega
  clear hnmd
  obtain ⟨k, S, ql, nl, cl, qh, nh, ch, qz, nz, cz, d⟩ := p
  have CO := Lib.hid (fun W (h : Below w.heap.size w W) => own_pv k S ql nl cl qh nh ch qz nz cz d W (pv_keep hp h))
  have HSd := Lib.hid (show S.data.toList = d.s from VIn.es hp)
  have hSz : S.size ≤ 1048576 := hS
  have HSs := Lib.hid (show d.s.length ≤ 1048576 by rw [← HSd.out, str_len]; exact hSz)
  have HG := Lib.hid (fun W (h : Below w.heap.size w W) => hg.keep h)
  have HD := Lib.hid (DB.new w #[.int .u8 k, .string S, .slice ql nl cl, .slice qh nh ch, .slice qz nz cz] #[.int .u8 0, .string ⟨#[]⟩, .slice none 0 0, .slice none 0 0, .slice none 0 0])
  obtain ⟨T, hT⟩ : ∃ T : ByteArray, T = ⟨(wd L 0).toArray⟩ := ⟨_, rfl⟩
  have hTz : T.size ≤ maxLen := by rw [hT, size_bytes]; unfold maxLen; exact Nat.le_trans (hw 0) (by decide)
  have HTd := Lib.hid (show lowL T.data.toList = nm by rw [hT]; exact hnm)
  obtain ⟨b, off, rfl, hbl, hc⟩ := ss_word hs 0 (by omega)
  rw [← hT, Nat.add_zero] at hc
  have HC := Lib.hid (fun W (h : Below w.heap.size w W) => (h.cell (p := ⟨b, off, none⟩) hbl).trans hc)
  have HSt := Lib.hid (fun W (h : Below w.heap.size w W) => hs.keep h)
  have n0 : (0 : Int) < (n : Int) := by omega
  have n00 : 0 < n := by omega
  have n1 : ((n : Int) == 0) = false := by rw [beq_eq_false_iff_ne]; omega
  have n3 : decide ((n : Int) < 2) = false := decide_eq_false (by omega)
  have CD := Lib.hid (fun W => deeds_bm W)
  have CL := Lib.hid (fun W => LowN.lower_any T W hTz)
  rw [HTd.out] at CL
  have HLk := Lib.hid (fun (W : World) (bm : Nat) (h : MapAt W bm deedsL) => lookup_ok Tryd.underlying61 Tryd.underlying9 h ⟨nm.toArray⟩ (.agg #[.int .i64 2, .func (.func 33) #[] #[]]) hV)
  have HW := Lib.hid hw
  have HK := Lib.hid hk
  show Calls Tryd.prog 12 #[.agg #[.int .u8 k, .string S, .slice ql nl cl, .slice qh nh ch, .slice qz nz cz], .slice (some ⟨b, off, none⟩) n c] w _
  clear hp hS hg hT hnm hs hc hw HTd hV
  go_enter Tryd.func12, Tryd.ntmps12
  go_wp2_with fail
  generalize ((w.alloc _).alloc _) = W2 at HD ⊢
  with_reducible refine (CO.out _ HD.out.bl).mono ?_
  rintro e w3 ⟨p1, rfl, hI, hd, ha, hb3⟩
  obtain ⟨k1, S1, ql1, nl1, cl1, qh1, nh1, ch1, qz1, nz1, cz1, d1⟩ := p1
  dsimp only [PV.agg]
  obtain rfl : d1 = d := hd
  rename V => d
  have HCs := Lib.hid (show (Tryd.prog.info? 26).map (·.size) = some (#[.int .u8 k1, .string S1, .slice ql1 nl1 cl1, .slice qh1 nh1 ch1, .slice qz1 nz1 cz1] : Array Value).size from val_size)
  have HOn := Lib.hid (show (#[.int .u8 k1, .string S1, .slice ql1 nl1 cl1, .slice qh1 nh1 ch1, .slice qz1 nz1 cz1] : Array Value).all (·.oneCell') = true by simp [Value.oneCell'])
  have HD3 := Lib.hid (HD.out.keep hb3)
  have HA3 := Lib.hid (show ∀ j, PV.at_ ⟨k1, S1, ql1, nl1, cl1, qh1, nh1, ch1, qz1, nz1, cz1, d⟩ j → w.heap.size + 1 < j from fun j hj => by have := ha j hj; have := HD.out.sz; omega)
  have HI3 := Lib.hid (show PV.In (w3.setRow w.heap.size #[.int .u8 k1, .string S1, .slice ql1 nl1 cl1, .slice qh1 nh1 ch1, .slice qz1 nz1 cz1]) ⟨k1, S1, ql1, nl1, cl1, qh1, nh1, ch1, qz1, nz1, cz1, d⟩ from PV.In.same hI (by simp) (fun j hj => setRow_other _ _ _ _ (by have := HA3.out j hj; omega)))
  have HD4 := Lib.hid (HD3.out.setBox #[.int .u8 k1, .string S1, .slice ql1 nl1 cl1, .slice qh1 nh1 ch1, .slice qz1 nz1 cz1])
  clear hb3 hI ha CO HD
  go_upto_region 4 with (with_reducible refine wpList_store_row rfl 26 (.tmp 2) (.tmp 9) rfl w.heap.size #[.int .u8 k1, .string S1, .slice ql1 nl1 cl1, .slice qh1 nh1 ch1, .slice qz1 nz1 cz1] rfl rfl 26 _ HD3.out.bx HCs.out rfl HOn.out ?_)
  clear HD3
  generalize w3.setRow w.heap.size #[.int .u8 k1, .string S1, .slice ql1 nl1 cl1, .slice qh1 nh1 ch1, .slice qz1 nz1 cz1] = w4 at HD4 HI3 ⊢
  have hc4 := HC.out _ HD4.out.bl
  have hc4a := HC.out _ (HD4.out.bl.alloc HD4.out.bl.size (.cells #[.int .i64 0, .nilFunc] 59))
  have hc4b := HC.out _ (HD4.out.bl.drew.alloc HD4.out.bl.size (.cells #[.int .i64 0, .nilFunc] 59))
  have HQ4 := Lib.hid (pv_lt HI3.out)
  have HS4 := Lib.hid HD4.out.sz
  go_cut [6, 7] (fun s6 s7 wx => ∃ gd, s6 = .pointer (some ⟨gd, 0, none⟩) ∧ s7 = .bool true ∧ Hid (Fnd w wx gd 2 33 #[.int .u8 k1, .string S1, .slice ql1 nl1 cl1, .slice qh1 nh1 ch1, .slice qz1 nz1 cz1] #[.int .u8 0, .string ⟨#[]⟩, .slice none 0 0, .slice none 0 0, .slice none 0 0] ⟨k1, S1, ql1, nl1, cl1, qh1, nh1, ch1, qz1, nz1, cz1, d⟩))
  case first =>
   go_region_law (first
    | (go_simp; (with_reducible refine (CD.out _).mono ?_); rintro e w5 ⟨bm, rfl, hM, hb5⟩; dsimp only
       have hb5' : Below w4.heap.size w4 w5 := by first | exact hb5 | exact b_dr hb5 | exact b_al hb5 | exact b_da hb5
       have HM5 := Lib.hid hM
       have HD5 := Lib.hid (HD4.out.keep hb5')
       have HI5 := Lib.hid (pv_keep HI3.out hb5')
       have hc5 := HC.out _ HD5.out.bl
       have hc5a := HC.out _ (HD5.out.bl.alloc HD5.out.bl.size (.cells #[.int .i64 0, .nilFunc] 59))
       first
         | (have HZ5 := Lib.hid (show DZ w5 w4.heap.size from dz_al hb5); have HL5 := Lib.hid hb5'.size)
         | (have HZ5 := Lib.hid (show DZ w5 w4.heap.size from dz_da hb5); have HL5 := Lib.hid hb5'.size)
         | (have HL5 := Lib.hid hb5'.size)
       clear hM hb5 hb5')
    | (go_simp; (with_reducible refine (CL.out _).mono ?_); rintro e w6 ⟨rfl, hb6⟩; dsimp only
       have hb6' : Below w5.heap.size w5 w6 := by first | exact hb6 | exact b_dr hb6 | exact b_al hb6 | exact b_da hb6
       have HM6 := Lib.hid (HM5.out.keep hb6')
       have hlk := HLk.out w6 _ HM6.out
       have hlk2 := HLk.out _ _ (HM6.out.keep (Kit.below1 w6 (.cells #[.int .i64 0, .nilFunc] 59)))
       have HD6 := Lib.hid (HD5.out.keep hb6')
       have HI6 := Lib.hid (pv_keep HI5.out hb6')
       first
         | (have HF := Lib.hid (show Fnd w (dset w6 w4.heap.size 2 33) w4.heap.size 2 33 _ _ _ from fnd_set (HZ5.out.keep hb6') (by have := HS4.out; omega) HQ4.out HD6.out HI6.out)
            have hzc := HZ5.out.keep hb6'
            obtain ⟨z0, z1, y0, y1⟩ := dz_facts hzc
            clear hzc)
         | (have hzc : DZ w6 w5.heap.size := by first | exact dz_al hb6 | exact dz_da hb6
            have HF := Lib.hid (show Fnd w (dset w6 w5.heap.size 2 33) w5.heap.size 2 33 _ _ _ from fnd_set hzc (by have := HS4.out; have := HL5.out; omega) (fun j hj => Nat.lt_of_lt_of_le (HQ4.out j hj) HL5.out) HD6.out HI6.out)
            obtain ⟨z0, z1, y0, y1⟩ := dz_facts hzc
            clear hzc)
         | (have HF := Lib.hid (fnd_al (m := 2) (fu := 33) HD6.out HI6.out))
       clear hb6 hb6'))
   all_goals
    go_wp2_with fail
    go_meet
    exact ⟨_, rfl, rfl, HF⟩
  case rest =>
  obtain ⟨gd, rfl, rfl, HF⟩ := hcut
  clear HD4 HI3 hc4 hc4a hc4b HQ4 HS4 CD CL HLk HC
  rename World => W2
  have HD := Lib.hid HF.out.db
  have HI := Lib.hid HF.out.pv
  have d0 := HF.out.d0
  have d1 := HF.out.d1
  clear HF
  obtain ⟨-, -, b0, b1, b2, b3, b4⟩ := HD.out.room
  have hS1 : S1.size ≤ 1048576 := by rw [← str_len, show S1.data.toList = d.s from VIn.es HI.out]; exact HSs.out
  have hK : k1 = (d.kind : Int) := VIn.ek HI.out
  have C := Lib.hid (show Calls Tryd.prog 33 #[.agg #[.int .u8 k1, .string S1, .slice ql1 nl1 cl1, .slice qh1 nh1 ch1, .slice qz1 nz1 cz1], .slice (some ⟨b, off, none⟩) n c] W2 (DoP (PV.at_ ⟨k1, S1, ql1, nl1, cl1, qh1, nh1, ch1, qz1, nz1, cz1, d⟩) (deedD 1 d L).1 (deedD 1 d L).2 W2) from getDel_any ⟨k1, S1, ql1, nl1, cl1, qh1, nh1, ch1, qz1, nz1, cz1, d⟩ (.slice (some ⟨b, off, none⟩) n c) W2 HI.out hS1 (HG.out _ HD.out.bl).gt)
  have tt : (k1 != 0) = false ∨ (k1 != 0) = true ∧ (k1 != 1) = false := by
    rcases HK.out with h | h
    · left; rw [hK, show d.kind = 0 from h]; rfl
    · right; rw [hK, show d.kind = 1 from h]; exact ⟨rfl, rfl⟩
  clear hK
  rcases tt with t0 | ⟨t0, t1⟩
  all_goals
    go_wp2_with fail
    with_reducible refine C.out.mono ?_
    rintro e w4 ⟨p2, vr, rfl, hI2, hd2, ha2, hA, hb4⟩
    obtain ⟨k2, S2, ql2, nl2, cl2, qh2, nh2, ch2, qz2, nz2, cz2, d2⟩ := p2
    dsimp only [PV.agg]
    have HD4 := Lib.hid (HD.out.keep hb4)
    have HA4 := Lib.hid hA
    have HI4 := Lib.hid hI2
    have HE4 := Lib.hid (show d2 = _ from hd2)
    have HT4 := Lib.hid ha2
    have HCs2 := Lib.hid (show (Tryd.prog.info? 26).map (·.size) = some (#[.int .u8 k2, .string S2, .slice ql2 nl2 cl2, .slice qh2 nh2 ch2, .slice qz2 nz2 cz2] : Array Value).size from val_size)
    have HOn2 := Lib.hid (show (#[.int .u8 k2, .string S2, .slice ql2 nl2 cl2, .slice qh2 nh2 ch2, .slice qz2 nz2 cz2] : Array Value).all (·.oneCell') = true by simp [Value.oneCell'])
    clear hA hb4 hI2 hd2 ha2
    go_wp2_with (with_reducible refine wpList_store_row rfl 26 (.tmp 4) (.tmp 48) rfl (w.heap.size + 1) #[.int .u8 k2, .string S2, .slice ql2 nl2 cl2, .slice qh2 nh2 ch2, .slice qz2 nz2 cz2] rfl rfl 26 _ HD4.out.re HCs2.out rfl HOn2.out ?_)
    exact bodyPost_ret (results_cell_slot rfl _ _ (w.heap.size + 1) 26 #[.int .u8 k2, .string S2, .slice ql2 nl2 cl2, .slice qh2 nh2 ch2, .slice qz2 nz2 cz2] (0, 0) _ vr rfl (setRow_heap w4 (w.heap.size + 1) _ _ _ _ HD4.out.re) Tryd.underlying26 rfl HCs2.out rfl) rfl (do_row HD4.out ⟨k2, S2, ql2, nl2, cl2, qh2, nh2, ch2, qz2, nz2, cz2, d2⟩ _ _ _ _ vr HI4.out HE4.out (fun j hj => Or.inr (by rcases HT4.out j hj with h | h; (have := HA3.out j h; omega); (have := HD.out.sz; omega))) (fun j hj => by rcases HT4.out j hj with h | h; (have := HA3.out j h; omega); (have := HD.out.sz; omega)) HA4.out (by have := HD.out.sz; omega) _)


end Go.Proofs.YthiaflnlmabikaaDoor.TxtM
namespace Go.Proofs.YthiaflnlmabikaaDoor.TxtM
open Go.RowKit Kit StrT RowG BOrd ValT StoT ReplyT ReplyMath ValM BytesIn DoT Low MapT LstT TxtT NumL NumW ReplyM
open RefTab (results_cell_slot)
set_option linter.unusedVariables false
set_option maxRecDepth 100000


set_option maxHeartbeats 8000000 in
theorem do_join (p : PV) (q : Option Addr) (L : List (List UInt8)) (n c : Nat) (w : World) (hp : p.In w) (hS : p.S.size ≤ 1048576) (hg : Gd w) (hn : L.length = n) (hm3 : 3 ≤ n) (hs : StrT.Ss w q L) (hw : ∀ j, (wd L j).length ≤ 140737488351232) (hnm : nmL L = [97, 112, 112, 101, 110, 100]) (hk : p.d.kind = 0 ∨ p.d.kind = 1) :
    Calls Tryd.prog 12 #[p.agg, .slice q n c] w (DoP (fun _ => False) (deedD 2 p.d L).1 (deedD 2 p.d L).2 w) := by
  obtain ⟨nm, hnmd⟩ : ∃ nm : List UInt8, nm = [97, 112, 112, 101, 110, 100] := ⟨_, rfl⟩
  have hV : ∀ Z, getM deedsL nm Z = .agg #[.int .i64 3, .func (.func 34) #[] #[]] := fun Z => by rw [hnmd]; kernel_rfl
  rw [← hnmd] at hnm
  have hm : (3 : Int) ≤ (n : Int) := by omega
  clear hnmd
  obtain ⟨k, S, ql, nl, cl, qh, nh, ch, qz, nz, cz, d⟩ := p
  have CO := Lib.hid (fun W (h : Below w.heap.size w W) => own_pv k S ql nl cl qh nh ch qz nz cz d W (pv_keep hp h))
  have HSd := Lib.hid (show S.data.toList = d.s from VIn.es hp)
  have hSz : S.size ≤ 1048576 := hS
  have HSs := Lib.hid (show d.s.length ≤ 1048576 by rw [← HSd.out, str_len]; exact hSz)
  have HG := Lib.hid (fun W (h : Below w.heap.size w W) => hg.keep h)
  have HD := Lib.hid (DB.new w #[.int .u8 k, .string S, .slice ql nl cl, .slice qh nh ch, .slice qz nz cz] #[.int .u8 0, .string ⟨#[]⟩, .slice none 0 0, .slice none 0 0, .slice none 0 0])
  obtain ⟨T, hT⟩ : ∃ T : ByteArray, T = ⟨(wd L 0).toArray⟩ := ⟨_, rfl⟩
  have hTz : T.size ≤ maxLen := by rw [hT, size_bytes]; unfold maxLen; exact Nat.le_trans (hw 0) (by decide)
  have HTd := Lib.hid (show lowL T.data.toList = nm by rw [hT]; exact hnm)
  obtain ⟨b, off, rfl, hbl, hc⟩ := ss_word hs 0 (by omega)
  rw [← hT, Nat.add_zero] at hc
  have HC := Lib.hid (fun W (h : Below w.heap.size w W) => (h.cell (p := ⟨b, off, none⟩) hbl).trans hc)
  have HSt := Lib.hid (fun W (h : Below w.heap.size w W) => hs.keep h)
  have n0 : (0 : Int) < (n : Int) := by omega
  have n00 : 0 < n := by omega
  have n1 : ((n : Int) == 0) = false := by rw [beq_eq_false_iff_ne]; omega
  have n3 : decide ((n : Int) < 3) = false := decide_eq_false (by omega)
  have CD := Lib.hid (fun W => deeds_bm W)
  have CL := Lib.hid (fun W => LowN.lower_any T W hTz)
  rw [HTd.out] at CL
  have HLk := Lib.hid (fun (W : World) (bm : Nat) (h : MapAt W bm deedsL) => lookup_ok Tryd.underlying61 Tryd.underlying9 h ⟨nm.toArray⟩ (.agg #[.int .i64 3, .func (.func 34) #[] #[]]) hV)
  have HW := Lib.hid hw
  have HK := Lib.hid hk
  show Calls Tryd.prog 12 #[.agg #[.int .u8 k, .string S, .slice ql nl cl, .slice qh nh ch, .slice qz nz cz], .slice (some ⟨b, off, none⟩) n c] w _
  clear hp hS hg hT hnm hs hc hw HTd hV
  go_enter Tryd.func12, Tryd.ntmps12
  go_wp2_with fail
  generalize ((w.alloc _).alloc _) = W2 at HD ⊢
  with_reducible refine (CO.out _ HD.out.bl).mono ?_
  rintro e w3 ⟨p1, rfl, hI, hd, ha, hb3⟩
  obtain ⟨k1, S1, ql1, nl1, cl1, qh1, nh1, ch1, qz1, nz1, cz1, d1⟩ := p1
  dsimp only [PV.agg]
  obtain rfl : d1 = d := hd
  rename V => d
  have HCs := Lib.hid (show (Tryd.prog.info? 26).map (·.size) = some (#[.int .u8 k1, .string S1, .slice ql1 nl1 cl1, .slice qh1 nh1 ch1, .slice qz1 nz1 cz1] : Array Value).size from val_size)
  have HOn := Lib.hid (show (#[.int .u8 k1, .string S1, .slice ql1 nl1 cl1, .slice qh1 nh1 ch1, .slice qz1 nz1 cz1] : Array Value).all (·.oneCell') = true by simp [Value.oneCell'])
  have HD3 := Lib.hid (HD.out.keep hb3)
  have HA3 := Lib.hid (show ∀ j, PV.at_ ⟨k1, S1, ql1, nl1, cl1, qh1, nh1, ch1, qz1, nz1, cz1, d⟩ j → w.heap.size + 1 < j from fun j hj => by have := ha j hj; have := HD.out.sz; omega)
  have HI3 := Lib.hid (show PV.In (w3.setRow w.heap.size #[.int .u8 k1, .string S1, .slice ql1 nl1 cl1, .slice qh1 nh1 ch1, .slice qz1 nz1 cz1]) ⟨k1, S1, ql1, nl1, cl1, qh1, nh1, ch1, qz1, nz1, cz1, d⟩ from PV.In.same hI (by simp) (fun j hj => setRow_other _ _ _ _ (by have := HA3.out j hj; omega)))
  have HD4 := Lib.hid (HD3.out.setBox #[.int .u8 k1, .string S1, .slice ql1 nl1 cl1, .slice qh1 nh1 ch1, .slice qz1 nz1 cz1])
  clear hb3 hI ha CO HD
  go_upto_region 4 with (with_reducible refine wpList_store_row rfl 26 (.tmp 2) (.tmp 9) rfl w.heap.size #[.int .u8 k1, .string S1, .slice ql1 nl1 cl1, .slice qh1 nh1 ch1, .slice qz1 nz1 cz1] rfl rfl 26 _ HD3.out.bx HCs.out rfl HOn.out ?_)
  clear HD3
  generalize w3.setRow w.heap.size #[.int .u8 k1, .string S1, .slice ql1 nl1 cl1, .slice qh1 nh1 ch1, .slice qz1 nz1 cz1] = w4 at HD4 HI3 ⊢
  have hc4 := HC.out _ HD4.out.bl
  have hc4a := HC.out _ (HD4.out.bl.alloc HD4.out.bl.size (.cells #[.int .i64 0, .nilFunc] 59))
  have hc4b := HC.out _ (HD4.out.bl.drew.alloc HD4.out.bl.size (.cells #[.int .i64 0, .nilFunc] 59))
  have HQ4 := Lib.hid (pv_lt HI3.out)
  have HS4 := Lib.hid HD4.out.sz
  go_cut [6, 7] (fun s6 s7 wx => ∃ gd, s6 = .pointer (some ⟨gd, 0, none⟩) ∧ s7 = .bool true ∧ Hid (Fnd w wx gd 3 34 #[.int .u8 k1, .string S1, .slice ql1 nl1 cl1, .slice qh1 nh1 ch1, .slice qz1 nz1 cz1] #[.int .u8 0, .string ⟨#[]⟩, .slice none 0 0, .slice none 0 0, .slice none 0 0] ⟨k1, S1, ql1, nl1, cl1, qh1, nh1, ch1, qz1, nz1, cz1, d⟩))
  case first =>
   go_region_law (first
    | (go_simp; (with_reducible refine (CD.out _).mono ?_); rintro e w5 ⟨bm, rfl, hM, hb5⟩; dsimp only
       have hb5' : Below w4.heap.size w4 w5 := by first | exact hb5 | exact b_dr hb5 | exact b_al hb5 | exact b_da hb5
       have HM5 := Lib.hid hM
       have HD5 := Lib.hid (HD4.out.keep hb5')
       have HI5 := Lib.hid (pv_keep HI3.out hb5')
       have hc5 := HC.out _ HD5.out.bl
       have hc5a := HC.out _ (HD5.out.bl.alloc HD5.out.bl.size (.cells #[.int .i64 0, .nilFunc] 59))
       first
         | (have HZ5 := Lib.hid (show DZ w5 w4.heap.size from dz_al hb5); have HL5 := Lib.hid hb5'.size)
         | (have HZ5 := Lib.hid (show DZ w5 w4.heap.size from dz_da hb5); have HL5 := Lib.hid hb5'.size)
         | (have HL5 := Lib.hid hb5'.size)
       clear hM hb5 hb5')
    | (go_simp; (with_reducible refine (CL.out _).mono ?_); rintro e w6 ⟨rfl, hb6⟩; dsimp only
       have hb6' : Below w5.heap.size w5 w6 := by first | exact hb6 | exact b_dr hb6 | exact b_al hb6 | exact b_da hb6
       have HM6 := Lib.hid (HM5.out.keep hb6')
       have hlk := HLk.out w6 _ HM6.out
       have hlk2 := HLk.out _ _ (HM6.out.keep (Kit.below1 w6 (.cells #[.int .i64 0, .nilFunc] 59)))
       have HD6 := Lib.hid (HD5.out.keep hb6')
       have HI6 := Lib.hid (pv_keep HI5.out hb6')
       first
         | (have HF := Lib.hid (show Fnd w (dset w6 w4.heap.size 3 34) w4.heap.size 3 34 _ _ _ from fnd_set (HZ5.out.keep hb6') (by have := HS4.out; omega) HQ4.out HD6.out HI6.out)
            have hzc := HZ5.out.keep hb6'
            obtain ⟨z0, z1, y0, y1⟩ := dz_facts hzc
            clear hzc)
         | (have hzc : DZ w6 w5.heap.size := by first | exact dz_al hb6 | exact dz_da hb6
            have HF := Lib.hid (show Fnd w (dset w6 w5.heap.size 3 34) w5.heap.size 3 34 _ _ _ from fnd_set hzc (by have := HS4.out; have := HL5.out; omega) (fun j hj => Nat.lt_of_lt_of_le (HQ4.out j hj) HL5.out) HD6.out HI6.out)
            obtain ⟨z0, z1, y0, y1⟩ := dz_facts hzc
            clear hzc)
         | (have HF := Lib.hid (fnd_al (m := 3) (fu := 34) HD6.out HI6.out))
       clear hb6 hb6'))
   all_goals
    go_wp2_with fail
    go_meet
    exact ⟨_, rfl, rfl, HF⟩
  case rest =>
  obtain ⟨gd, rfl, rfl, HF⟩ := hcut
  clear HD4 HI3 hc4 hc4a hc4b HQ4 HS4 CD CL HLk HC
  rename World => W2
  have HD := Lib.hid HF.out.db
  have HI := Lib.hid HF.out.pv
  have d0 := HF.out.d0
  have d1 := HF.out.d1
  clear HF
  obtain ⟨-, -, b0, b1, b2, b3, b4⟩ := HD.out.room
  have hS1 : S1.size ≤ 1048576 := by rw [← str_len, show S1.data.toList = d.s from VIn.es HI.out]; exact HSs.out
  have hK : k1 = (d.kind : Int) := VIn.ek HI.out
  have C := Lib.hid (show Calls Tryd.prog 34 #[.agg #[.int .u8 k1, .string S1, .slice ql1 nl1 cl1, .slice qh1 nh1 ch1, .slice qz1 nz1 cz1], .slice (some ⟨b, off, none⟩) n c] W2 (DoP (PV.at_ ⟨k1, S1, ql1, nl1, cl1, qh1, nh1, ch1, qz1, nz1, cz1, d⟩) (deedD 2 d L).1 (deedD 2 d L).2 W2) from join_any ⟨k1, S1, ql1, nl1, cl1, qh1, nh1, ch1, qz1, nz1, cz1, d⟩ _ L n c W2 HI.out hS1 (HG.out _ HD.out.bl).gt hn (by omega) (HSt.out _ HD.out.bl) (HW.out 2))
  have tt : (k1 != 0) = false ∨ (k1 != 0) = true ∧ (k1 != 1) = false := by
    rcases HK.out with h | h
    · left; rw [hK, show d.kind = 0 from h]; rfl
    · right; rw [hK, show d.kind = 1 from h]; exact ⟨rfl, rfl⟩
  clear hK
  rcases tt with t0 | ⟨t0, t1⟩
  all_goals
    go_wp2_with fail
    with_reducible refine C.out.mono ?_
    rintro e w4 ⟨p2, vr, rfl, hI2, hd2, ha2, hA, hb4⟩
    obtain ⟨k2, S2, ql2, nl2, cl2, qh2, nh2, ch2, qz2, nz2, cz2, d2⟩ := p2
    dsimp only [PV.agg]
    have HD4 := Lib.hid (HD.out.keep hb4)
    have HA4 := Lib.hid hA
    have HI4 := Lib.hid hI2
    have HE4 := Lib.hid (show d2 = _ from hd2)
    have HT4 := Lib.hid ha2
    have HCs2 := Lib.hid (show (Tryd.prog.info? 26).map (·.size) = some (#[.int .u8 k2, .string S2, .slice ql2 nl2 cl2, .slice qh2 nh2 ch2, .slice qz2 nz2 cz2] : Array Value).size from val_size)
    have HOn2 := Lib.hid (show (#[.int .u8 k2, .string S2, .slice ql2 nl2 cl2, .slice qh2 nh2 ch2, .slice qz2 nz2 cz2] : Array Value).all (·.oneCell') = true by simp [Value.oneCell'])
    clear hA hb4 hI2 hd2 ha2
    go_wp2_with (with_reducible refine wpList_store_row rfl 26 (.tmp 4) (.tmp 48) rfl (w.heap.size + 1) #[.int .u8 k2, .string S2, .slice ql2 nl2 cl2, .slice qh2 nh2 ch2, .slice qz2 nz2 cz2] rfl rfl 26 _ HD4.out.re HCs2.out rfl HOn2.out ?_)
    exact bodyPost_ret (results_cell_slot rfl _ _ (w.heap.size + 1) 26 #[.int .u8 k2, .string S2, .slice ql2 nl2 cl2, .slice qh2 nh2 ch2, .slice qz2 nz2 cz2] (0, 0) _ vr rfl (setRow_heap w4 (w.heap.size + 1) _ _ _ _ HD4.out.re) Tryd.underlying26 rfl HCs2.out rfl) rfl (do_row HD4.out ⟨k2, S2, ql2, nl2, cl2, qh2, nh2, ch2, qz2, nz2, cz2, d2⟩ _ _ _ _ vr HI4.out HE4.out (fun j hj => Or.inr (by rcases HT4.out j hj with h | h; (have := HA3.out j h; omega); (have := HD.out.sz; omega))) (fun j hj => by rcases HT4.out j hj with h | h; (have := HA3.out j h; omega); (have := HD.out.sz; omega)) HA4.out (by have := HD.out.sz; omega) _)


end Go.Proofs.YthiaflnlmabikaaDoor.TxtM
