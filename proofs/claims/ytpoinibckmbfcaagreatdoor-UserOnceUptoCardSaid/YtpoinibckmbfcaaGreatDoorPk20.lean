/-
  Packed by program.
-/
import Derived.Test.YtpoinibckmbfcaaGreatDoorPk19
namespace Go.Proofs.YtpoinibckmbfcaaGreatDoor.UserM
open Go.RowKit Kit StrT RowG RuleT UserT UserR TableMath Low ValT RefUser
open Go.Sort (grow)
open RefRule (results_cell_slot)
set_option linter.unusedVariables false
set_option maxRecDepth 100000
set_option maxHeartbeats 4000000 in
theorem ch_14 (w0 w : World) (p : UP) (m : Nat) (T : ByteArray) (a b : Bool) (sq : Option Addr) (sn sc : Nat) (n : Int) (h : UO w0 w p) (hm : m < 18446744073709551616) (hf : p.nh ≤ 64 ∧ p.nk ≤ 64 ∧ p.nc ≤ 64) :
  ChG w0 w p 14 T a b (m : Int) sq sn sc n (some (setU p.d ⟨14,T.data.toList,a,b,m⟩ [])) := by
 have HB := Lib.hid (CB.new (w := w) h.bl (ownF p) (ucs p) #[.int .u8 14,.string T,.bool a,.bool b,.int .u64 (m : Int)])
 have hb3 := below_three w (.cells (ucs p) 26) (.cells #[.int .u8 14,.string T,.bool a,.bool b,.int .u64 (m : Int)] 29) (.cells ucs0 26)
 have HP := Lib.hid (CP.of h hb3)
 have HU := Lib.hid (h.keep hb3)
 have HLt := Lib.hid (fun k hk => (h.at_ k hk).2)
 have HEm := Lib.hid (And.intro h.i.em h.i.mb)
 unfold ChG
 obtain ⟨N,on,np,qh,nh,ch,mm,qk,nk,ck,qc,nc,cc,d⟩ := p
 obtain ⟨hf1,hf2,hf3⟩ := hf
 simp only [ucs,ucs0] at HB HP HU HEm hf1 hf2 hf3
 clear h hb3
 show Calls Tryz.prog 24 #[.agg #[.string N,.bool on,.bool np,.slice qh nh ch,.int .u64 mm,.slice qk nk ck,.slice qc nc cc],.agg #[.int .u8 14,.string T,.bool a,.bool b,.int .u64 (m : Int)],.slice sq sn sc,.int .i64 n] w _
 go_enter Tryz.func24,Tryz.ntmps24
 go_upto_region 1 with fail
 generalize ((w.alloc _).alloc _).alloc _ = w1 at HB HP HU ⊢
 obtain ⟨c0,c1,c2,c3,c4⟩ := box_cells HB.out.br
 obtain ⟨u0,u1,u2,u3,u4,u5,u6⟩ := u_cells HB.out.bx
 have fz := fun j => frozen_of_row _ _ j _ _ HB.out.bx
 have f0 := fz 0
 have f1 := fz 1
 have f2 := fz 2
 have f3 := fz 3
 have f4 := fz 4
 have f5 := fz 5
 have f6 := fz 6
 clear fz
 have CN := Lib.hid (fun W => new_any N W trivial)
 have HNd := Lib.hid (show N.data.toList = d.name from HP.out.ip.en)
 go_wp2_with fail
 with_reducible refine (CN.out _).mono ?_
 rintro e w4 ⟨⟨N2,on2,np2,qh2,nh2,ch2,mm2,qk2,nk2,ck2,qc2,nc2,cc2,d2⟩,rfl,hi,hd,hat,hb⟩
 dsimp only [UP.agg]
 have HB4 := Lib.hid (HB.out.keep hb)
 have HP4 : Hid (CP w0 w ⟨N2,on2,np2,qh2,nh2,ch2,mm2,qk2,nk2,ck2,qc2,nc2,cc2,d2⟩ w4) := Lib.hid ⟨hi,fun k hk => by have := HB.out.bl.size; exact (hat k hk).elim False.elim (fun h => by omega),fun k hk => by have := HB.out.lt; exact (hat k hk).elim False.elim (fun h => by omega),fun k hk => absurd hk (new_none hi hd k)⟩
 have HD := Lib.hid (show d2 = newU d.name by rw [← HNd.out]; exact hd)
 clear hi hd hat hb HB HP HU CN
 clear c0 c1 c2 c3 c4 u0 u1 u2 u3 u4 u5 u6 f0 f1 f2 f3 f4 f5 f6
 have HCs := Lib.hid (ucs_size ⟨N2,on2,np2,qh2,nh2,ch2,mm2,qk2,nk2,ck2,qc2,nc2,cc2,d2⟩)
 have HOn := Lib.hid (user_one (N2) (on2) (np2) (qh2) (qk2) (qc2) (nh2) (ch2) (nk2) (ck2) (nc2) (cc2) (mm2))
 simp only [ucs] at HCs
 have HV := Lib.hid (HB4.out.all #[.string N2,.bool on2,.bool np2,.slice qh2 nh2 ch2,.int .u64 mm2,.slice qk2 nk2 ck2,.slice qc2 nc2 cc2])
 have HW := Lib.hid (HP4.out.all #[.string N2,.bool on2,.bool np2,.slice qh2 nh2 ch2,.int .u64 mm2,.slice qk2 nk2 ck2,.slice qc2 nc2 cc2])
 go_upto_region 31 with (with_reducible refine wpList_store_row rfl 26 (.tmp 4) (.tmp 105) rfl w.heap.size #[.string N2,.bool on2,.bool np2,.slice qh2 nh2 ch2,.int .u64 mm2,.slice qk2 nk2 ck2,.slice qc2 nc2 cc2] rfl rfl 26 _ HB4.out.bx HCs.out rfl HOn.out ?_)
 clear HB4 HP4
 generalize w4.setRow w.heap.size _ = v1 at HV HW ⊢
 obtain ⟨c0,c1,c2,c3,c4⟩ := box_cells HV.out.br
 obtain ⟨u0,u1,u2,u3,u4,u5,u6⟩ := u_cells HV.out.bx
 have fz := fun j => frozen_of_row _ _ j _ _ HV.out.bx
 have f0 := fz 0
 have f1 := fz 1
 have f2 := fz 2
 have f3 := fz 3
 have f4 := fz 4
 have f5 := fz 5
 have f6 := fz 6
 clear fz
 have HE := Lib.hid (ch_end HV.out HW.out _ HD.out)
 go_wp2_with (with_reducible refine wpList_store_row rfl 26 (.tmp 8) (.tmp 106) rfl (w.heap.size + 2) #[.string N2,.bool on2,.bool np2,.slice qh2 nh2 ch2,.int .u64 mm2,.slice qk2 nk2 ck2,.slice qc2 nc2 cc2] rfl rfl 26 _ HV.out.bz HCs.out rfl HOn.out ?_)
 exact bodyPost_ret (results_cell_slot rfl _ _ (w.heap.size + 2) 26 #[.string N2,.bool on2,.bool np2,.slice qh2 nh2 ch2,.int .u64 mm2,.slice qk2 nk2 ck2,.slice qc2 nc2 cc2] (0,0) _ (.bool true) rfl (setRow_heap _ (w.heap.size + 2) _ _ _ _ HV.out.bz) Tryz.underlying26 rfl HCs.out rfl) rfl HE.out
set_option maxHeartbeats 4000000 in
theorem ch_6 (w0 w : World) (p : UP) (m : Nat) (T : ByteArray) (a b : Bool) (sq : Option Addr) (sn sc : Nat) (n : Int) (h : UO w0 w p) (hm : m < 18446744073709551616) (hf : p.nh ≤ 64 ∧ p.nk ≤ 64 ∧ p.nc ≤ 64) :
  ChG w0 w p 6 T a b (m : Int) sq sn sc n (some (setU p.d ⟨6,T.data.toList,a,b,m⟩ [])) := by
 have HB := Lib.hid (CB.new (w := w) h.bl (ownF p) (ucs p) #[.int .u8 6,.string T,.bool a,.bool b,.int .u64 (m : Int)])
 have hb3 := below_three w (.cells (ucs p) 26) (.cells #[.int .u8 6,.string T,.bool a,.bool b,.int .u64 (m : Int)] 29) (.cells ucs0 26)
 have HP := Lib.hid (CP.of h hb3)
 have HU := Lib.hid (h.keep hb3)
 have HLt := Lib.hid (fun k hk => (h.at_ k hk).2)
 have HEm := Lib.hid (And.intro h.i.em h.i.mb)
 unfold ChG
 obtain ⟨N,on,np,qh,nh,ch,mm,qk,nk,ck,qc,nc,cc,d⟩ := p
 obtain ⟨hf1,hf2,hf3⟩ := hf
 simp only [ucs,ucs0] at HB HP HU HEm hf1 hf2 hf3
 clear h hb3
 show Calls Tryz.prog 24 #[.agg #[.string N,.bool on,.bool np,.slice qh nh ch,.int .u64 mm,.slice qk nk ck,.slice qc nc cc],.agg #[.int .u8 6,.string T,.bool a,.bool b,.int .u64 (m : Int)],.slice sq sn sc,.int .i64 n] w _
 go_enter Tryz.func24,Tryz.ntmps24
 go_upto_region 1 with fail
 generalize ((w.alloc _).alloc _).alloc _ = w1 at HB HP HU ⊢
 obtain ⟨c0,c1,c2,c3,c4⟩ := box_cells HB.out.br
 obtain ⟨u0,u1,u2,u3,u4,u5,u6⟩ := u_cells HB.out.bx
 have fz := fun j => frozen_of_row _ _ j _ _ HB.out.bx
 have f0 := fz 0
 have f1 := fz 1
 have f2 := fz 2
 have f3 := fz 3
 have f4 := fz 4
 have f5 := fz 5
 have f6 := fz 6
 clear fz
 have CS := Lib.hid (with_any w0 w1 qh nh ch d.hs T HB.out.bl HU.out.h (by omega))
 go_wp2_with fail
 with_reducible refine CS.out.mono ?_
 rintro e w4 ⟨q4,c4x,rfl,hs⟩
 obtain ⟨n4,hn4⟩ : ∃ x,x = (moreL d.hs T.data.toList).length := ⟨_,rfl⟩
 rw [← hn4] at hs ⊢
 have HB4 := Lib.hid (HB.out.gr HU.out.h hs (by decide) (by decide) (fun k hk => Or.inl hk))
 have HP4 := Lib.hid (CP.hss HU.out HB.out HLt.out hs HB4.out (by rw [hn4]; have h1 : d.hs.length = nh := HU.out.i.h.l; have h2 := more_len d.hs T.data.toList; omega) false)
 simp only at HP4
 clear hs hn4 CS HP HU HB
 clear c0 c1 c2 c3 c4 u0 u1 u2 u3 u4 u5 u6 f0 f1 f2 f3 f4 f5 f6
 obtain ⟨c0,c1,c2,c3,c4⟩ := box_cells HB4.out.br
 obtain ⟨u0,u1,u2,u3,u4,u5,u6⟩ := u_cells HB4.out.bx
 have fz := fun j => frozen_of_row _ _ j _ _ HB4.out.bx
 have f0 := fz 0
 have f1 := fz 1
 have f2 := fz 2
 have f3 := fz 3
 have f4 := fz 4
 have f5 := fz 5
 have f6 := fz 6
 clear fz
 have HV := Lib.hid ((HB4.out.put 2 (.bool false)).put 3 (.slice q4 n4 c4x))
 have HW := Lib.hid ((HP4.out.put 2 (.bool false)).put 3 (.slice q4 n4 c4x))
 have HVx : Hid (CB w0 w _ #[.string N,.bool on,.bool false,.slice q4 n4 c4x,.int .u64 mm,.slice qk nk ck,.slice qc nc cc] _ _) := HV
 clear HV HB4 HP4
 go_upto_region 31 with fail
 generalize World.setCell _ _ _ = v1 at HVx HW ⊢
 have HP1 : Hid (CP w0 w ⟨N,on,false,q4,n4,c4x,mm,qk,nk,ck,qc,nc,cc,{ d with np := false,hs := moreL d.hs T.data.toList }⟩ v1) := HW
 clear HW
 clear c0 c1 c2 c3 c4 u0 u1 u2 u3 u4 u5 u6 f0 f1 f2 f3 f4 f5 f6
 obtain ⟨c0,c1,c2,c3,c4⟩ := box_cells HVx.out.br
 obtain ⟨u0,u1,u2,u3,u4,u5,u6⟩ := u_cells HVx.out.bx
 have fz := fun j => frozen_of_row _ _ j _ _ HVx.out.bx
 have f0 := fz 0
 have f1 := fz 1
 have f2 := fz 2
 have f3 := fz 3
 have f4 := fz 4
 have f5 := fz 5
 have f6 := fz 6
 clear fz
 have HE := Lib.hid (ch_end HVx.out HP1.out _ rfl)
 have HC9 := Lib.hid (ucs_size ⟨N,on,false,q4,n4,c4x,mm,qk,nk,ck,qc,nc,cc,{ d with np := false,hs := moreL d.hs T.data.toList }⟩)
 have HO9 := Lib.hid (user_one (N) (on) (false) (q4) (qk) (qc) (n4) (c4x) (nk) (ck) (nc) (cc) (mm))
 simp only [ucs] at HC9
 go_wp2_with (with_reducible refine wpList_store_row rfl 26 (.tmp 8) (.tmp 106) rfl (w.heap.size + 2) #[.string N,.bool on,.bool false,.slice q4 n4 c4x,.int .u64 mm,.slice qk nk ck,.slice qc nc cc] rfl rfl 26 _ HVx.out.bz HC9.out rfl HO9.out ?_)
 exact bodyPost_ret (results_cell_slot rfl _ _ (w.heap.size + 2) 26 #[.string N,.bool on,.bool false,.slice q4 n4 c4x,.int .u64 mm,.slice qk nk ck,.slice qc nc cc] (0,0) _ (.bool true) rfl (setRow_heap _ (w.heap.size + 2) _ _ _ _ HVx.out.bz) Tryz.underlying26 rfl HC9.out rfl) rfl HE.out
set_option maxHeartbeats 4000000 in
theorem ch_12 (w0 w : World) (p : UP) (m : Nat) (T : ByteArray) (a b : Bool) (sq : Option Addr) (sn sc : Nat) (n : Int) (h : UO w0 w p) (hm : m < 18446744073709551616) (hf : p.nh ≤ 64 ∧ p.nk ≤ 64 ∧ p.nc ≤ 64) :
  ChG w0 w p 12 T a b (m : Int) sq sn sc n (some (setU p.d ⟨12,T.data.toList,a,b,m⟩ [])) := by
 have HB := Lib.hid (CB.new (w := w) h.bl (ownF p) (ucs p) #[.int .u8 12,.string T,.bool a,.bool b,.int .u64 (m : Int)])
 have hb3 := below_three w (.cells (ucs p) 26) (.cells #[.int .u8 12,.string T,.bool a,.bool b,.int .u64 (m : Int)] 29) (.cells ucs0 26)
 have HP := Lib.hid (CP.of h hb3)
 have HU := Lib.hid (h.keep hb3)
 have HLt := Lib.hid (fun k hk => (h.at_ k hk).2)
 have HEm := Lib.hid (And.intro h.i.em h.i.mb)
 unfold ChG
 obtain ⟨N,on,np,qh,nh,ch,mm,qk,nk,ck,qc,nc,cc,d⟩ := p
 obtain ⟨hf1,hf2,hf3⟩ := hf
 simp only [ucs,ucs0] at HB HP HU HEm hf1 hf2 hf3
 clear h hb3
 show Calls Tryz.prog 24 #[.agg #[.string N,.bool on,.bool np,.slice qh nh ch,.int .u64 mm,.slice qk nk ck,.slice qc nc cc],.agg #[.int .u8 12,.string T,.bool a,.bool b,.int .u64 (m : Int)],.slice sq sn sc,.int .i64 n] w _
 go_enter Tryz.func24,Tryz.ntmps24
 go_upto_region 1 with fail
 generalize ((w.alloc _).alloc _).alloc _ = w1 at HB HP HU ⊢
 obtain ⟨c0,c1,c2,c3,c4⟩ := box_cells HB.out.br
 obtain ⟨u0,u1,u2,u3,u4,u5,u6⟩ := u_cells HB.out.bx
 have fz := fun j => frozen_of_row _ _ j _ _ HB.out.bx
 have f0 := fz 0
 have f1 := fz 1
 have f2 := fz 2
 have f3 := fz 3
 have f4 := fz 4
 have f5 := fz 5
 have f6 := fz 6
 clear fz
 have CS := Lib.hid (with_any w0 w1 qc nc cc d.cs T HB.out.bl HU.out.c (by omega))
 go_wp2_with fail
 with_reducible refine CS.out.mono ?_
 rintro e w4 ⟨q4,c4x,rfl,hs⟩
 obtain ⟨n4,hn4⟩ : ∃ x,x = (moreL d.cs T.data.toList).length := ⟨_,rfl⟩
 rw [← hn4] at hs ⊢
 have HB4 := Lib.hid (HB.out.gr HU.out.c hs (by decide) (by decide) (fun k hk => Or.inr (Or.inr hk)))
 have HP4 := Lib.hid (CP.chs HU.out HB.out HLt.out hs HB4.out (by rw [hn4]; have h1 : d.cs.length = nc := HU.out.i.c.l; have h2 := more_len d.cs T.data.toList; omega))
 simp only at HP4
 clear hs hn4 CS HP HU HB
 clear c0 c1 c2 c3 c4 u0 u1 u2 u3 u4 u5 u6 f0 f1 f2 f3 f4 f5 f6
 obtain ⟨c0,c1,c2,c3,c4⟩ := box_cells HB4.out.br
 obtain ⟨u0,u1,u2,u3,u4,u5,u6⟩ := u_cells HB4.out.bx
 have fz := fun j => frozen_of_row _ _ j _ _ HB4.out.bx
 have f0 := fz 0
 have f1 := fz 1
 have f2 := fz 2
 have f3 := fz 3
 have f4 := fz 4
 have f5 := fz 5
 have f6 := fz 6
 clear fz
 have HV := Lib.hid (HB4.out.put 6 (.slice q4 n4 c4x))
 have HW := Lib.hid (HP4.out.put 6 (.slice q4 n4 c4x))
 have HVx : Hid (CB w0 w _ #[.string N,.bool on,.bool np,.slice qh nh ch,.int .u64 mm,.slice qk nk ck,.slice q4 n4 c4x] _ _) := HV
 clear HV HB4 HP4
 go_upto_region 31 with fail
 generalize World.setCell _ _ _ = v1 at HVx HW ⊢
 have HP1 : Hid (CP w0 w ⟨N,on,np,qh,nh,ch,mm,qk,nk,ck,q4,n4,c4x,{ d with cs := moreL d.cs T.data.toList }⟩ v1) := HW
 clear HW
 clear c0 c1 c2 c3 c4 u0 u1 u2 u3 u4 u5 u6 f0 f1 f2 f3 f4 f5 f6
 obtain ⟨c0,c1,c2,c3,c4⟩ := box_cells HVx.out.br
 obtain ⟨u0,u1,u2,u3,u4,u5,u6⟩ := u_cells HVx.out.bx
 have fz := fun j => frozen_of_row _ _ j _ _ HVx.out.bx
 have f0 := fz 0
 have f1 := fz 1
 have f2 := fz 2
 have f3 := fz 3
 have f4 := fz 4
 have f5 := fz 5
 have f6 := fz 6
 clear fz
 have HE := Lib.hid (ch_end HVx.out HP1.out _ rfl)
 have HC9 := Lib.hid (ucs_size ⟨N,on,np,qh,nh,ch,mm,qk,nk,ck,q4,n4,c4x,{ d with cs := moreL d.cs T.data.toList }⟩)
 have HO9 := Lib.hid (user_one (N) (on) (np) (qh) (qk) (q4) (nh) (ch) (nk) (ck) (n4) (c4x) (mm))
 simp only [ucs] at HC9
 go_wp2_with (with_reducible refine wpList_store_row rfl 26 (.tmp 8) (.tmp 106) rfl (w.heap.size + 2) #[.string N,.bool on,.bool np,.slice qh nh ch,.int .u64 mm,.slice qk nk ck,.slice q4 n4 c4x] rfl rfl 26 _ HVx.out.bz HC9.out rfl HO9.out ?_)
 exact bodyPost_ret (results_cell_slot rfl _ _ (w.heap.size + 2) 26 #[.string N,.bool on,.bool np,.slice qh nh ch,.int .u64 mm,.slice qk nk ck,.slice q4 n4 c4x] (0,0) _ (.bool true) rfl (setRow_heap _ (w.heap.size + 2) _ _ _ _ HVx.out.bz) Tryz.underlying26 rfl HC9.out rfl) rfl HE.out
set_option maxHeartbeats 4000000 in
theorem ch_10 (w0 w : World) (p : UP) (m : Nat) (T : ByteArray) (a b : Bool) (sq : Option Addr) (sn sc : Nat) (n : Int) (h : UO w0 w p) (hm : m < 18446744073709551616) (hf : p.nh ≤ 64 ∧ p.nk ≤ 64 ∧ p.nc ≤ 64) :
  ChG w0 w p 10 T a b (m : Int) sq sn sc n (some (setU p.d ⟨10,T.data.toList,a,b,m⟩ [])) := by
 have HB := Lib.hid (CB.new (w := w) h.bl (ownF p) (ucs p) #[.int .u8 10,.string T,.bool a,.bool b,.int .u64 (m : Int)])
 have hb3 := below_three w (.cells (ucs p) 26) (.cells #[.int .u8 10,.string T,.bool a,.bool b,.int .u64 (m : Int)] 29) (.cells ucs0 26)
 have HP := Lib.hid (CP.of h hb3)
 have HU := Lib.hid (h.keep hb3)
 have HLt := Lib.hid (fun k hk => (h.at_ k hk).2)
 have HEm := Lib.hid (And.intro h.i.em h.i.mb)
 unfold ChG
 obtain ⟨N,on,np,qh,nh,ch,mm,qk,nk,ck,qc,nc,cc,d⟩ := p
 obtain ⟨hf1,hf2,hf3⟩ := hf
 simp only [ucs,ucs0] at HB HP HU HEm hf1 hf2 hf3
 clear h hb3
 show Calls Tryz.prog 24 #[.agg #[.string N,.bool on,.bool np,.slice qh nh ch,.int .u64 mm,.slice qk nk ck,.slice qc nc cc],.agg #[.int .u8 10,.string T,.bool a,.bool b,.int .u64 (m : Int)],.slice sq sn sc,.int .i64 n] w _
 go_enter Tryz.func24,Tryz.ntmps24
 go_upto_region 1 with fail
 generalize ((w.alloc _).alloc _).alloc _ = w1 at HB HP HU ⊢
 obtain ⟨c0,c1,c2,c3,c4⟩ := box_cells HB.out.br
 obtain ⟨u0,u1,u2,u3,u4,u5,u6⟩ := u_cells HB.out.bx
 have fz := fun j => frozen_of_row _ _ j _ _ HB.out.bx
 have f0 := fz 0
 have f1 := fz 1
 have f2 := fz 2
 have f3 := fz 3
 have f4 := fz 4
 have f5 := fz 5
 have f6 := fz 6
 clear fz
 have CS := Lib.hid (withKeys_any w0 w1 qk nk ck d.ks 10 (m : Int) T a b HB.out.bl HU.out.k (by omega))
 go_wp2_with fail
 with_reducible refine CS.out.mono ?_
 rintro e w4 ⟨q4,c4x,rfl,hs⟩
 obtain ⟨n4,hn4⟩ : ∃ x,x = (keysL d.ks T.data.toList a b).length := ⟨_,rfl⟩
 rw [← hn4] at hs ⊢
 have HB4 := Lib.hid (HB.out.gr HU.out.k hs (by decide) (by decide) (fun k hk => Or.inr (Or.inl hk)))
 have HP4 := Lib.hid (CP.kss HU.out HB.out HLt.out hs HB4.out (by rw [hn4]; have h1 : d.ks.length = nk := HU.out.i.k.l; have h2 := keys_len d.ks T.data.toList a b; omega))
 simp only at HP4
 clear hs hn4 CS HP HU HB
 clear c0 c1 c2 c3 c4 u0 u1 u2 u3 u4 u5 u6 f0 f1 f2 f3 f4 f5 f6
 obtain ⟨c0,c1,c2,c3,c4⟩ := box_cells HB4.out.br
 obtain ⟨u0,u1,u2,u3,u4,u5,u6⟩ := u_cells HB4.out.bx
 have fz := fun j => frozen_of_row _ _ j _ _ HB4.out.bx
 have f0 := fz 0
 have f1 := fz 1
 have f2 := fz 2
 have f3 := fz 3
 have f4 := fz 4
 have f5 := fz 5
 have f6 := fz 6
 clear fz
 have HV := Lib.hid (HB4.out.put 5 (.slice q4 n4 c4x))
 have HW := Lib.hid (HP4.out.put 5 (.slice q4 n4 c4x))
 have HVx : Hid (CB w0 w _ #[.string N,.bool on,.bool np,.slice qh nh ch,.int .u64 mm,.slice q4 n4 c4x,.slice qc nc cc] _ _) := HV
 clear HV HB4 HP4
 go_upto_region 31 with fail
 generalize World.setCell _ _ _ = v1 at HVx HW ⊢
 have HP1 : Hid (CP w0 w ⟨N,on,np,qh,nh,ch,mm,q4,n4,c4x,qc,nc,cc,{ d with ks := keysL d.ks T.data.toList a b }⟩ v1) := HW
 clear HW
 clear c0 c1 c2 c3 c4 u0 u1 u2 u3 u4 u5 u6 f0 f1 f2 f3 f4 f5 f6
 obtain ⟨c0,c1,c2,c3,c4⟩ := box_cells HVx.out.br
 obtain ⟨u0,u1,u2,u3,u4,u5,u6⟩ := u_cells HVx.out.bx
 have fz := fun j => frozen_of_row _ _ j _ _ HVx.out.bx
 have f0 := fz 0
 have f1 := fz 1
 have f2 := fz 2
 have f3 := fz 3
 have f4 := fz 4
 have f5 := fz 5
 have f6 := fz 6
 clear fz
 have HE := Lib.hid (ch_end HVx.out HP1.out _ rfl)
 have HC9 := Lib.hid (ucs_size ⟨N,on,np,qh,nh,ch,mm,q4,n4,c4x,qc,nc,cc,{ d with ks := keysL d.ks T.data.toList a b }⟩)
 have HO9 := Lib.hid (user_one (N) (on) (np) (qh) (q4) (qc) (nh) (ch) (n4) (c4x) (nc) (cc) (mm))
 simp only [ucs] at HC9
 go_wp2_with (with_reducible refine wpList_store_row rfl 26 (.tmp 8) (.tmp 106) rfl (w.heap.size + 2) #[.string N,.bool on,.bool np,.slice qh nh ch,.int .u64 mm,.slice q4 n4 c4x,.slice qc nc cc] rfl rfl 26 _ HVx.out.bz HC9.out rfl HO9.out ?_)
 exact bodyPost_ret (results_cell_slot rfl _ _ (w.heap.size + 2) 26 #[.string N,.bool on,.bool np,.slice qh nh ch,.int .u64 mm,.slice q4 n4 c4x,.slice qc nc cc] (0,0) _ (.bool true) rfl (setRow_heap _ (w.heap.size + 2) _ _ _ _ HVx.out.bz) Tryz.underlying26 rfl HC9.out rfl) rfl HE.out
set_option maxHeartbeats 4000000 in
theorem ch_7 (w0 w : World) (p : UP) (m : Nat) (T : ByteArray) (a b : Bool) (sq : Option Addr) (sn sc : Nat) (n : Int) (h : UO w0 w p) (hm : m < 18446744073709551616) (hf : p.nh ≤ 64 ∧ p.nk ≤ 64 ∧ p.nc ≤ 64) :
  ChG w0 w p 7 T a b (m : Int) sq sn sc n (some (setU p.d ⟨7,T.data.toList,a,b,m⟩ [])) := by
 rw [show setU p.d ⟨7,T.data.toList,a,b,m⟩ [] = { p.d with hs := p.d.hs.filter (fun x => !decide (x = T.data.toList)) } by simp [setU]]
 have HB := Lib.hid (CB.new (w := w) h.bl (ownF p) (ucs p) #[.int .u8 7,.string T,.bool a,.bool b,.int .u64 (m : Int)])
 have hb3 := below_three w (.cells (ucs p) 26) (.cells #[.int .u8 7,.string T,.bool a,.bool b,.int .u64 (m : Int)] 29) (.cells ucs0 26)
 have HP := Lib.hid (CP.of h hb3)
 have HU := Lib.hid (h.keep hb3)
 have HLt := Lib.hid (fun k hk => (h.at_ k hk).2)
 have HEm := Lib.hid (And.intro h.i.em h.i.mb)
 unfold ChG
 obtain ⟨N,on,np,qh,nh,ch,mm,qk,nk,ck,qc,nc,cc,d⟩ := p
 obtain ⟨hf1,hf2,hf3⟩ := hf
 simp only [ucs,ucs0] at HB HP HU HEm hf1 hf2 hf3
 clear h hb3
 show Calls Tryz.prog 24 #[.agg #[.string N,.bool on,.bool np,.slice qh nh ch,.int .u64 mm,.slice qk nk ck,.slice qc nc cc],.agg #[.int .u8 7,.string T,.bool a,.bool b,.int .u64 (m : Int)],.slice sq sn sc,.int .i64 n] w _
 go_enter Tryz.func24,Tryz.ntmps24
 go_upto_region 1 with fail
 generalize ((w.alloc _).alloc _).alloc _ = w1 at HB HP HU ⊢
 obtain ⟨c0,c1,c2,c3,c4⟩ := box_cells HB.out.br
 obtain ⟨u0,u1,u2,u3,u4,u5,u6⟩ := u_cells HB.out.bx
 have fz := fun j => frozen_of_row _ _ j _ _ HB.out.bx
 have f0 := fz 0
 have f1 := fz 1
 have f2 := fz 2
 have f3 := fz 3
 have f4 := fz 4
 have f5 := fz 5
 have f6 := fz 6
 clear fz
 have HEp := Lib.hid (show np = d.np from HP.out.ip.ep)
 have CS := Lib.hid (del_any w0 w1 qh nh ch d.hs T a b (w.heap.size + 1) HB.out.bl HU.out.h ⟨_,_,HB.out.br⟩ (own_apart HU.out.h HB.out.br (by decide)) (by omega))
 go_wp2_with fail
 with_reducible refine CS.out.mono ?_
 rintro e w4 ⟨q4,c4x,rfl,hs⟩
 obtain ⟨n4,hn4⟩ : ∃ x,x = (d.hs.filter (fun x => !decide (x = T.data.toList))).length := ⟨_,rfl⟩
 rw [← hn4] at hs ⊢
 have HB4 := Lib.hid (HB.out.gr HU.out.h hs (by decide) (by decide) (fun k hk => Or.inl hk))
 have HP4 := Lib.hid (CP.hss HU.out HB.out HLt.out hs HB4.out (by rw [hn4]; have h1 : d.hs.length = nh := HU.out.i.h.l; have h2 := List.length_filter_le (fun x => !decide (x = T.data.toList)) d.hs; omega) np)
 simp only at HP4
 clear hs hn4 CS HP HU HB
 clear c0 c1 c2 c3 c4 u0 u1 u2 u3 u4 u5 u6 f0 f1 f2 f3 f4 f5 f6
 obtain ⟨c0,c1,c2,c3,c4⟩ := box_cells HB4.out.br
 obtain ⟨u0,u1,u2,u3,u4,u5,u6⟩ := u_cells HB4.out.bx
 have fz := fun j => frozen_of_row _ _ j _ _ HB4.out.bx
 have f0 := fz 0
 have f1 := fz 1
 have f2 := fz 2
 have f3 := fz 3
 have f4 := fz 4
 have f5 := fz 5
 have f6 := fz 6
 clear fz
 have HV := Lib.hid (HB4.out.put 3 (.slice q4 n4 c4x))
 have HW := Lib.hid (HP4.out.put 3 (.slice q4 n4 c4x))
 have HVx : Hid (CB w0 w _ #[.string N,.bool on,.bool np,.slice q4 n4 c4x,.int .u64 mm,.slice qk nk ck,.slice qc nc cc] _ _) := HV
 clear HV HB4 HP4
 go_upto_region 31 with fail
 generalize World.setCell _ _ _ = v1 at HVx HW ⊢
 have HP1 : Hid (CP w0 w ⟨N,on,np,q4,n4,c4x,mm,qk,nk,ck,qc,nc,cc,{ d with hs := d.hs.filter (fun x => !decide (x = T.data.toList)) }⟩ v1) := Lib.hid ⟨{ HW.out.ip with ep := HEp.out },HW.out.ge,HW.out.ne,HW.out.ty⟩
 clear HW
 clear c0 c1 c2 c3 c4 u0 u1 u2 u3 u4 u5 u6 f0 f1 f2 f3 f4 f5 f6
 obtain ⟨c0,c1,c2,c3,c4⟩ := box_cells HVx.out.br
 obtain ⟨u0,u1,u2,u3,u4,u5,u6⟩ := u_cells HVx.out.bx
 have fz := fun j => frozen_of_row _ _ j _ _ HVx.out.bx
 have f0 := fz 0
 have f1 := fz 1
 have f2 := fz 2
 have f3 := fz 3
 have f4 := fz 4
 have f5 := fz 5
 have f6 := fz 6
 clear fz
 have HE := Lib.hid (ch_end HVx.out HP1.out _ rfl)
 have HC9 := Lib.hid (ucs_size ⟨N,on,np,q4,n4,c4x,mm,qk,nk,ck,qc,nc,cc,{ d with hs := d.hs.filter (fun x => !decide (x = T.data.toList)) }⟩)
 have HO9 := Lib.hid (user_one (N) (on) (np) (q4) (qk) (qc) (n4) (c4x) (nk) (ck) (nc) (cc) (mm))
 simp only [ucs] at HC9
 go_wp2_with (with_reducible refine wpList_store_row rfl 26 (.tmp 8) (.tmp 106) rfl (w.heap.size + 2) #[.string N,.bool on,.bool np,.slice q4 n4 c4x,.int .u64 mm,.slice qk nk ck,.slice qc nc cc] rfl rfl 26 _ HVx.out.bz HC9.out rfl HO9.out ?_)
 exact bodyPost_ret (results_cell_slot rfl _ _ (w.heap.size + 2) 26 #[.string N,.bool on,.bool np,.slice q4 n4 c4x,.int .u64 mm,.slice qk nk ck,.slice qc nc cc] (0,0) _ (.bool true) rfl (setRow_heap _ (w.heap.size + 2) _ _ _ _ HVx.out.bz) Tryz.underlying26 rfl HC9.out rfl) rfl HE.out
end Go.Proofs.YtpoinibckmbfcaaGreatDoor.UserM
namespace Go.Proofs.YtpoinibckmbfcaaGreatDoor.UserM
open Go.RowKit Kit StrT RowG RuleT UserT UserR TableMath Low ValT RefUser
open Go.Sort (grow)
open RefRule (results_cell_slot)
set_option linter.unusedVariables false
set_option maxRecDepth 100000
set_option maxHeartbeats 4000000 in
theorem ch_5 (w0 w : World) (p : UP) (m : Nat) (T : ByteArray) (a b : Bool) (sq : Option Addr) (sn sc : Nat) (n : Int) (h : UO w0 w p) (hm : m < 18446744073709551616) (hf : p.nh ≤ 64 ∧ p.nk ≤ 64 ∧ p.nc ≤ 64) (R : ByteArray) (H : List UInt8) (hR : R.data.toList = H) (hC : ∀ W,Below w.heap.size w W → Calls Tryz.prog 65 #[.string T,.slice sq sn sc,.int .i64 n] W fun e w' => e = .returned (.tuple #[.string R,.bool true]) ∧ Below W.heap.size W w') :
  ChG w0 w p 5 T a b (m : Int) sq sn sc n (some (setU p.d ⟨5,T.data.toList,a,b,m⟩ H)) := by
 have HR5 := Lib.hid hR
 have HC5 := Lib.hid hC
 clear hR hC
 have HB := Lib.hid (CB.new (w := w) h.bl (ownF p) (ucs p) #[.int .u8 5,.string T,.bool a,.bool b,.int .u64 (m : Int)])
 have hb3 := below_three w (.cells (ucs p) 26) (.cells #[.int .u8 5,.string T,.bool a,.bool b,.int .u64 (m : Int)] 29) (.cells ucs0 26)
 have HP := Lib.hid (CP.of h hb3)
 have HU := Lib.hid (h.keep hb3)
 have HLt := Lib.hid (fun k hk => (h.at_ k hk).2)
 have HEm := Lib.hid (And.intro h.i.em h.i.mb)
 have HW3 := Lib.hid hb3
 unfold ChG
 obtain ⟨N,on,np,qh,nh,ch,mm,qk,nk,ck,qc,nc,cc,d⟩ := p
 obtain ⟨hf1,hf2,hf3⟩ := hf
 simp only [ucs,ucs0] at HB HP HU HEm hf1 hf2 hf3 HW3
 clear h hb3
 show Calls Tryz.prog 24 #[.agg #[.string N,.bool on,.bool np,.slice qh nh ch,.int .u64 mm,.slice qk nk ck,.slice qc nc cc],.agg #[.int .u8 5,.string T,.bool a,.bool b,.int .u64 (m : Int)],.slice sq sn sc,.int .i64 n] w _
 go_enter Tryz.func24,Tryz.ntmps24
 go_upto_region 1 with fail
 generalize ((w.alloc _).alloc _).alloc _ = w1 at HB HP HU HW3 ⊢
 obtain ⟨c0,c1,c2,c3,c4⟩ := box_cells HB.out.br
 obtain ⟨u0,u1,u2,u3,u4,u5,u6⟩ := u_cells HB.out.bx
 have fz := fun j => frozen_of_row _ _ j _ _ HB.out.bx
 have f0 := fz 0
 have f1 := fz 1
 have f2 := fz 2
 have f3 := fz 3
 have f4 := fz 4
 have f5 := fz 5
 have f6 := fz 6
 clear fz
 go_wp2_with fail
 with_reducible refine (HC5.out _ HW3.out).mono ?_
 rintro e w3 ⟨rfl,hb5⟩
 have HBb := Lib.hid (HB.out.keep hb5)
 have HUb := Lib.hid (HU.out.keep hb5)
 clear hb5 HC5 HW3 HB HU HP c0 c1 c2 c3 c4 u0 u1 u2 u3 u4 u5 u6 f0 f1 f2 f3 f4 f5 f6
 obtain ⟨c0,c1,c2,c3,c4⟩ := box_cells HBb.out.br
 obtain ⟨u0,u1,u2,u3,u4,u5,u6⟩ := u_cells HBb.out.bx
 have fz := fun j => frozen_of_row _ _ j _ _ HBb.out.bx
 have f0 := fz 0
 have f1 := fz 1
 have f2 := fz 2
 have f3 := fz 3
 have f4 := fz 4
 have f5 := fz 5
 have f6 := fz 6
 clear fz
 have HP := trivial
 have HB := trivial
 have HU := trivial
 have CS := Lib.hid (HR5.out ▸ with_any w0 w3 qh nh ch d.hs R HBb.out.bl HUb.out.h (by omega))
 go_wp2_with fail
 with_reducible refine CS.out.mono ?_
 rintro e w4 ⟨q4,c4x,rfl,hs⟩
 obtain ⟨n4,hn4⟩ : ∃ x,x = (moreL d.hs H).length := ⟨_,rfl⟩
 rw [← hn4] at hs ⊢
 have HB4 := Lib.hid (HBb.out.gr HUb.out.h hs (by decide) (by decide) (fun k hk => Or.inl hk))
 have HP4 := Lib.hid (CP.hss HUb.out HBb.out HLt.out hs HB4.out (by rw [hn4]; have h1 : d.hs.length = nh := HUb.out.i.h.l; have h2 := more_len d.hs H; omega) false)
 simp only at HP4
 clear hs hn4 CS HP HU HB HBb HUb
 clear c0 c1 c2 c3 c4 u0 u1 u2 u3 u4 u5 u6 f0 f1 f2 f3 f4 f5 f6
 obtain ⟨c0,c1,c2,c3,c4⟩ := box_cells HB4.out.br
 obtain ⟨u0,u1,u2,u3,u4,u5,u6⟩ := u_cells HB4.out.bx
 have fz := fun j => frozen_of_row _ _ j _ _ HB4.out.bx
 have f0 := fz 0
 have f1 := fz 1
 have f2 := fz 2
 have f3 := fz 3
 have f4 := fz 4
 have f5 := fz 5
 have f6 := fz 6
 clear fz
 have HV := Lib.hid ((HB4.out.put 2 (.bool false)).put 3 (.slice q4 n4 c4x))
 have HW := Lib.hid ((HP4.out.put 2 (.bool false)).put 3 (.slice q4 n4 c4x))
 have HVx : Hid (CB w0 w _ #[.string N,.bool on,.bool false,.slice q4 n4 c4x,.int .u64 mm,.slice qk nk ck,.slice qc nc cc] _ _) := HV
 clear HV HB4 HP4
 go_upto_region 31 with fail
 generalize World.setCell _ _ _ = v1 at HVx HW ⊢
 have HP1 : Hid (CP w0 w ⟨N,on,false,q4,n4,c4x,mm,qk,nk,ck,qc,nc,cc,{ d with np := false,hs := moreL d.hs H }⟩ v1) := HW
 clear HW
 clear c0 c1 c2 c3 c4 u0 u1 u2 u3 u4 u5 u6 f0 f1 f2 f3 f4 f5 f6
 obtain ⟨c0,c1,c2,c3,c4⟩ := box_cells HVx.out.br
 obtain ⟨u0,u1,u2,u3,u4,u5,u6⟩ := u_cells HVx.out.bx
 have fz := fun j => frozen_of_row _ _ j _ _ HVx.out.bx
 have f0 := fz 0
 have f1 := fz 1
 have f2 := fz 2
 have f3 := fz 3
 have f4 := fz 4
 have f5 := fz 5
 have f6 := fz 6
 clear fz
 have HE := Lib.hid (ch_end HVx.out HP1.out _ rfl)
 have HC9 := Lib.hid (ucs_size ⟨N,on,false,q4,n4,c4x,mm,qk,nk,ck,qc,nc,cc,{ d with np := false,hs := moreL d.hs H }⟩)
 have HO9 := Lib.hid (user_one (N) (on) (false) (q4) (qk) (qc) (n4) (c4x) (nk) (ck) (nc) (cc) (mm))
 simp only [ucs] at HC9
 go_wp2_with (with_reducible refine wpList_store_row rfl 26 (.tmp 8) (.tmp 106) rfl (w.heap.size + 2) #[.string N,.bool on,.bool false,.slice q4 n4 c4x,.int .u64 mm,.slice qk nk ck,.slice qc nc cc] rfl rfl 26 _ HVx.out.bz HC9.out rfl HO9.out ?_)
 exact bodyPost_ret (results_cell_slot rfl _ _ (w.heap.size + 2) 26 #[.string N,.bool on,.bool false,.slice q4 n4 c4x,.int .u64 mm,.slice qk nk ck,.slice qc nc cc] (0,0) _ (.bool true) rfl (setRow_heap _ (w.heap.size + 2) _ _ _ _ HVx.out.bz) Tryz.underlying26 rfl HC9.out rfl) rfl HE.out
set_option maxHeartbeats 4000000 in
theorem ch_5n (w0 w : World) (p : UP) (m : Nat) (T : ByteArray) (a b : Bool) (sq : Option Addr) (sn sc : Nat) (n : Int) (h : UO w0 w p) (hm : m < 18446744073709551616) (hf : p.nh ≤ 64 ∧ p.nk ≤ 64 ∧ p.nc ≤ 64) (R : ByteArray) (hC : ∀ W,Below w.heap.size w W → Calls Tryz.prog 65 #[.string T,.slice sq sn sc,.int .i64 n] W fun e w' => e = .returned (.tuple #[.string R,.bool false]) ∧ Below W.heap.size W w') :
  ChG w0 w p 5 T a b (m : Int) sq sn sc n (none) := by
 have HC5 := Lib.hid hC
 clear hC
 have HB := Lib.hid (CB.new (w := w) h.bl (ownF p) (ucs p) #[.int .u8 5,.string T,.bool a,.bool b,.int .u64 (m : Int)])
 have hb3 := below_three w (.cells (ucs p) 26) (.cells #[.int .u8 5,.string T,.bool a,.bool b,.int .u64 (m : Int)] 29) (.cells ucs0 26)
 have HP := Lib.hid (CP.of h hb3)
 have HU := Lib.hid (h.keep hb3)
 have HLt := Lib.hid (fun k hk => (h.at_ k hk).2)
 have HEm := Lib.hid (And.intro h.i.em h.i.mb)
 have HW3 := Lib.hid hb3
 unfold ChG
 obtain ⟨N,on,np,qh,nh,ch,mm,qk,nk,ck,qc,nc,cc,d⟩ := p
 obtain ⟨hf1,hf2,hf3⟩ := hf
 simp only [ucs,ucs0] at HB HP HU HEm hf1 hf2 hf3 HW3
 clear h hb3
 show Calls Tryz.prog 24 #[.agg #[.string N,.bool on,.bool np,.slice qh nh ch,.int .u64 mm,.slice qk nk ck,.slice qc nc cc],.agg #[.int .u8 5,.string T,.bool a,.bool b,.int .u64 (m : Int)],.slice sq sn sc,.int .i64 n] w _
 go_enter Tryz.func24,Tryz.ntmps24
 go_upto_region 1 with fail
 generalize ((w.alloc _).alloc _).alloc _ = w1 at HB HP HU HW3 ⊢
 obtain ⟨c0,c1,c2,c3,c4⟩ := box_cells HB.out.br
 obtain ⟨u0,u1,u2,u3,u4,u5,u6⟩ := u_cells HB.out.bx
 have fz := fun j => frozen_of_row _ _ j _ _ HB.out.bx
 have f0 := fz 0
 have f1 := fz 1
 have f2 := fz 2
 have f3 := fz 3
 have f4 := fz 4
 have f5 := fz 5
 have f6 := fz 6
 clear fz
 go_wp2_with fail
 with_reducible refine (HC5.out _ HW3.out).mono ?_
 rintro e w3 ⟨rfl,hb5⟩
 have HBb := Lib.hid (HB.out.keep hb5)
 clear hb5 HC5 HW3 HB HU HP c0 c1 c2 c3 c4 u0 u1 u2 u3 u4 u5 u6 f0 f1 f2 f3 f4 f5 f6
 obtain ⟨c0,c1,c2,c3,c4⟩ := box_cells HBb.out.br
 obtain ⟨u0,u1,u2,u3,u4,u5,u6⟩ := u_cells HBb.out.bx
 have fz := fun j => frozen_of_row _ _ j _ _ HBb.out.bx
 have f0 := fz 0
 have f1 := fz 1
 have f2 := fz 2
 have f3 := fz 3
 have f4 := fz 4
 have f5 := fz 5
 have f6 := fz 6
 clear fz
 have HE := Lib.hid (ch_none HBb.out ⟨N,on,np,qh,nh,ch,mm,qk,nk,ck,qc,nc,cc,d⟩)
 have HCs := Lib.hid (ucs_size ⟨N,on,np,qh,nh,ch,mm,qk,nk,ck,qc,nc,cc,d⟩)
 have HOn := Lib.hid (user_one N on np qh qk qc nh ch nk ck nc cc mm)
 simp only [ucs] at HCs
 go_wp2_with (with_reducible refine wpList_store_row rfl 26 (.tmp 8) (.tmp 41) rfl (w.heap.size + 2) #[.string N,.bool on,.bool np,.slice qh nh ch,.int .u64 mm,.slice qk nk ck,.slice qc nc cc] rfl rfl 26 _ HBb.out.bz HCs.out rfl HOn.out ?_)
 exact bodyPost_ret (results_cell_slot rfl _ _ (w.heap.size + 2) 26 #[.string N,.bool on,.bool np,.slice qh nh ch,.int .u64 mm,.slice qk nk ck,.slice qc nc cc] (0,0) _ (.bool false) rfl (setRow_heap _ (w.heap.size + 2) _ _ _ _ HBb.out.bz) Tryz.underlying26 rfl HCs.out rfl) rfl HE.out
end Go.Proofs.YtpoinibckmbfcaaGreatDoor.UserM
