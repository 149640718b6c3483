/-
  Packed by program.
-/
import Derived.Test.YtpoinibckmbfcaaGreatDoorPk18
namespace Go.Proofs.YtpoinibckmbfcaaGreatDoor.RefUser
open Go.RowKit Kit StrT RowG RuleT UserT UserR TableMath Low ValT
open Go.Sort (grow)
open RefRule (results_cell_slot)
set_option linter.unusedVariables false
set_option maxRecDepth 100000
set_option maxHeartbeats 4000000 in
theorem apply_1 (p : UP) (m : Nat) (T : ByteArray) (a b : Bool) (sq : Option Addr) (sn sc : Nat) (n : Int) (w : World) (hU : UIn w p) (hz : T.size ≤ 1048576) (hm : m < 18446744073709551616) (hf : fewB p.d = true) (hr : rightR ⟨1,T.data.toList,a,b,m⟩ = true) :
  ApG p 1 T a b (m : Int) sq sn sc n w (some (setU p.d ⟨1,T.data.toList,a,b,m⟩ [])) := by
 have HA := Lib.hid (AB.new hU #[Value.int .u8 1,.string T,.bool a,.bool b,.int .u64 (m : Int)])
 have CR := Lib.hid (fun W => (show Calls Tryz.prog 25 #[.agg #[.int .u8 1,.string T,.bool a,.bool b,.int .u64 (m : Int)]] W (fun e w' => e = .returned (.bool true) ∧ Below W.heap.size W w') from by
  have h := right_any 1 m T a b W hz hm (by decide)
  unfold RightC at h
  rw [hr] at h
  exact h))
 obtain ⟨n1,n2,n3⟩ := few_nums hU hf
 have HEm := Lib.hid (And.intro hU.em hU.mb)
 have HRr := Lib.hid hr
 clear hr
 unfold ApG
 obtain ⟨N,on,np,qh,nh,ch,mm,qk,nk,ck,qc,nc,cc,d⟩ := p
 have HCs := Lib.hid (ucs_size ⟨N,on,np,qh,nh,ch,mm,qk,nk,ck,qc,nc,cc,d⟩)
 have HOn := Lib.hid (user_one N on np qh qk qc nh ch nk ck nc cc mm)
 simp only [ucs,ucs0] at HA HCs HOn n1 n2 n3 HEm
 have e1 : decide ((64 : Int) < (nh : Int)) = false := decide_eq_false (by omega)
 have e2 : decide ((64 : Int) < (nk : Int)) = false := decide_eq_false (by omega)
 have e3 : decide ((64 : Int) < (nc : Int)) = false := decide_eq_false (by omega)
 have HF := Lib.hid hf
 clear hU hf
 show Calls Tryz.prog 11 #[.agg #[.string N,.bool on,.bool np,.slice qh nh ch,.int .u64 mm,.slice qk nk ck,.slice qc nc cc],.agg #[.int .u8 1,.string T,.bool a,.bool b,.int .u64 (m : Int)],.slice sq sn sc,.int .i64 n] w _
 go_enter Tryz.func11,Tryz.ntmps11
 go_upto_region 1 with fail
 generalize ((w.alloc _).alloc _).alloc _ = w1 at HA ⊢
 obtain ⟨c0,c1,c2,c3,c4⟩ := box_cells HA.out.br
 go_wp2_with fail
 refine (CR.out _).mono ?_
 rintro e w2 ⟨rfl,hb2⟩
 have HA2 := Lib.hid (HA.out.keep hb2)
 clear hb2 HA CR c0 c1 c2 c3 c4
 obtain ⟨u0,u1,u2,u3,u4,u5,u6⟩ := u_cells HA2.out.bx
 have HO := Lib.hid (AO.new HA2.out)
 simp only [ucs] at HO
 go_upto_region 5 with fail
 generalize w2.heap.size = g at HO ⊢
 generalize w2.alloc _ = w3 at HO ⊢
 clear u0 u1 u2 u3 u4 u5 u6 HA2
 obtain ⟨c0,c1,c2,c3,c4⟩ := box_cells HO.out.ab.br
 obtain ⟨u0,u1,u2,u3,u4,u5,u6⟩ := u_cells HO.out.ab.bx
 obtain ⟨x0,x1,x2,x3,x4,x5,x6⟩ := u_cells HO.out.bo
 have fz := fun j => frozen_of_row _ _ j _ _ HO.out.bo
 have f0 := fz 0
 have f1 := fz 1
 have f2 := fz 2
 have f3 := fz 3
 have f4 := fz 4
 have f5 := fz 5
 have f6 := fz 6
 clear fz
 have HP := Lib.hid (AO.put HO.out ⟨N,true,np,qh,nh,ch,mm,qk,nk,ck,qc,nc,cc,{ d with on := true }⟩ 1 (.bool true) rfl { HO.out.io with eo := rfl } (fun k hk => HO.out.at_ k hk))
 clear HO
 go_upto_region 44 with fail
 generalize World.setCell _ _ _ = w4 at HP ⊢
 clear c0 c1 c2 c3 c4 u0 u1 u2 u3 u4 u5 u6 x0 x1 x2 x3 x4 x5 x6 f0 f1 f2 f3 f4 f5 f6
 obtain ⟨c0,c1,c2,c3,c4⟩ := box_cells HP.out.ab.br
 obtain ⟨u0,u1,u2,u3,u4,u5,u6⟩ := u_cells HP.out.ab.bx
 obtain ⟨x0,x1,x2,x3,x4,x5,x6⟩ := u_cells HP.out.bo
 have fz := fun j => frozen_of_row _ _ j _ _ HP.out.bo
 have f0 := fz 0
 have f1 := fz 1
 have f2 := fz 2
 have f3 := fz 3
 have f4 := fz 4
 have f5 := fz 5
 have f6 := fz 6
 clear fz
 have HC9 := Lib.hid (ucs_size ⟨N,true,np,qh,nh,ch,mm,qk,nk,ck,qc,nc,cc,{ d with on := true }⟩)
 have HO9 := Lib.hid (user_one (N) (true) (np) (qh) (qk) (qc) (nh) (ch) (nk) (ck) (nc) (cc) (mm))
 simp only [ucs] at HC9
 go_wp2_with (with_reducible refine wpList_store_row rfl 26 (.tmp 8) (.tmp 151) rfl (w.heap.size + 2) #[.string N,.bool true,.bool np,.slice qh nh ch,.int .u64 mm,.slice qk nk ck,.slice qc nc cc] rfl rfl 26 _ HP.out.ab.bz HC9.out rfl HO9.out ?_)
 exact bodyPost_ret (results_cell_slot rfl _ _ (w.heap.size + 2) 26 #[.string N,.bool true,.bool np,.slice qh nh ch,.int .u64 mm,.slice qk nk ck,.slice qc nc cc] (0,0) _ (.bool true) rfl (setRow_heap _ (w.heap.size + 2) _ _ _ _ HP.out.ab.bz) Tryz.underlying26 rfl HC9.out rfl) rfl HP.out.fin
set_option maxHeartbeats 4000000 in
theorem apply_2 (p : UP) (m : Nat) (T : ByteArray) (a b : Bool) (sq : Option Addr) (sn sc : Nat) (n : Int) (w : World) (hU : UIn w p) (hz : T.size ≤ 1048576) (hm : m < 18446744073709551616) (hf : fewB p.d = true) (hr : rightR ⟨2,T.data.toList,a,b,m⟩ = true) :
  ApG p 2 T a b (m : Int) sq sn sc n w (some (setU p.d ⟨2,T.data.toList,a,b,m⟩ [])) := by
 have HA := Lib.hid (AB.new hU #[Value.int .u8 2,.string T,.bool a,.bool b,.int .u64 (m : Int)])
 have CR := Lib.hid (fun W => (show Calls Tryz.prog 25 #[.agg #[.int .u8 2,.string T,.bool a,.bool b,.int .u64 (m : Int)]] W (fun e w' => e = .returned (.bool true) ∧ Below W.heap.size W w') from by
  have h := right_any 2 m T a b W hz hm (by decide)
  unfold RightC at h
  rw [hr] at h
  exact h))
 obtain ⟨n1,n2,n3⟩ := few_nums hU hf
 have HEm := Lib.hid (And.intro hU.em hU.mb)
 have HRr := Lib.hid hr
 clear hr
 unfold ApG
 obtain ⟨N,on,np,qh,nh,ch,mm,qk,nk,ck,qc,nc,cc,d⟩ := p
 have HCs := Lib.hid (ucs_size ⟨N,on,np,qh,nh,ch,mm,qk,nk,ck,qc,nc,cc,d⟩)
 have HOn := Lib.hid (user_one N on np qh qk qc nh ch nk ck nc cc mm)
 simp only [ucs,ucs0] at HA HCs HOn n1 n2 n3 HEm
 have e1 : decide ((64 : Int) < (nh : Int)) = false := decide_eq_false (by omega)
 have e2 : decide ((64 : Int) < (nk : Int)) = false := decide_eq_false (by omega)
 have e3 : decide ((64 : Int) < (nc : Int)) = false := decide_eq_false (by omega)
 have HF := Lib.hid hf
 clear hU hf
 show Calls Tryz.prog 11 #[.agg #[.string N,.bool on,.bool np,.slice qh nh ch,.int .u64 mm,.slice qk nk ck,.slice qc nc cc],.agg #[.int .u8 2,.string T,.bool a,.bool b,.int .u64 (m : Int)],.slice sq sn sc,.int .i64 n] w _
 go_enter Tryz.func11,Tryz.ntmps11
 go_upto_region 1 with fail
 generalize ((w.alloc _).alloc _).alloc _ = w1 at HA ⊢
 obtain ⟨c0,c1,c2,c3,c4⟩ := box_cells HA.out.br
 go_wp2_with fail
 refine (CR.out _).mono ?_
 rintro e w2 ⟨rfl,hb2⟩
 have HA2 := Lib.hid (HA.out.keep hb2)
 clear hb2 HA CR c0 c1 c2 c3 c4
 obtain ⟨u0,u1,u2,u3,u4,u5,u6⟩ := u_cells HA2.out.bx
 have HO := Lib.hid (AO.new HA2.out)
 simp only [ucs] at HO
 go_upto_region 5 with fail
 generalize w2.heap.size = g at HO ⊢
 generalize w2.alloc _ = w3 at HO ⊢
 clear u0 u1 u2 u3 u4 u5 u6 HA2
 obtain ⟨c0,c1,c2,c3,c4⟩ := box_cells HO.out.ab.br
 obtain ⟨u0,u1,u2,u3,u4,u5,u6⟩ := u_cells HO.out.ab.bx
 obtain ⟨x0,x1,x2,x3,x4,x5,x6⟩ := u_cells HO.out.bo
 have fz := fun j => frozen_of_row _ _ j _ _ HO.out.bo
 have f0 := fz 0
 have f1 := fz 1
 have f2 := fz 2
 have f3 := fz 3
 have f4 := fz 4
 have f5 := fz 5
 have f6 := fz 6
 clear fz
 have HP := Lib.hid (AO.put HO.out ⟨N,false,np,qh,nh,ch,mm,qk,nk,ck,qc,nc,cc,{ d with on := false }⟩ 1 (.bool false) rfl { HO.out.io with eo := rfl } (fun k hk => HO.out.at_ k hk))
 clear HO
 go_upto_region 44 with fail
 generalize World.setCell _ _ _ = w4 at HP ⊢
 clear c0 c1 c2 c3 c4 u0 u1 u2 u3 u4 u5 u6 x0 x1 x2 x3 x4 x5 x6 f0 f1 f2 f3 f4 f5 f6
 obtain ⟨c0,c1,c2,c3,c4⟩ := box_cells HP.out.ab.br
 obtain ⟨u0,u1,u2,u3,u4,u5,u6⟩ := u_cells HP.out.ab.bx
 obtain ⟨x0,x1,x2,x3,x4,x5,x6⟩ := u_cells HP.out.bo
 have fz := fun j => frozen_of_row _ _ j _ _ HP.out.bo
 have f0 := fz 0
 have f1 := fz 1
 have f2 := fz 2
 have f3 := fz 3
 have f4 := fz 4
 have f5 := fz 5
 have f6 := fz 6
 clear fz
 have HC9 := Lib.hid (ucs_size ⟨N,false,np,qh,nh,ch,mm,qk,nk,ck,qc,nc,cc,{ d with on := false }⟩)
 have HO9 := Lib.hid (user_one (N) (false) (np) (qh) (qk) (qc) (nh) (ch) (nk) (ck) (nc) (cc) (mm))
 simp only [ucs] at HC9
 go_wp2_with (with_reducible refine wpList_store_row rfl 26 (.tmp 8) (.tmp 151) rfl (w.heap.size + 2) #[.string N,.bool false,.bool np,.slice qh nh ch,.int .u64 mm,.slice qk nk ck,.slice qc nc cc] rfl rfl 26 _ HP.out.ab.bz HC9.out rfl HO9.out ?_)
 exact bodyPost_ret (results_cell_slot rfl _ _ (w.heap.size + 2) 26 #[.string N,.bool false,.bool np,.slice qh nh ch,.int .u64 mm,.slice qk nk ck,.slice qc nc cc] (0,0) _ (.bool true) rfl (setRow_heap _ (w.heap.size + 2) _ _ _ _ HP.out.ab.bz) Tryz.underlying26 rfl HC9.out rfl) rfl HP.out.fin
set_option maxHeartbeats 4000000 in
theorem apply_3 (p : UP) (m : Nat) (T : ByteArray) (a b : Bool) (sq : Option Addr) (sn sc : Nat) (n : Int) (w : World) (hU : UIn w p) (hz : T.size ≤ 1048576) (hm : m < 18446744073709551616) (hf : fewB p.d = true) (hr : rightR ⟨3,T.data.toList,a,b,m⟩ = true) :
  ApG p 3 T a b (m : Int) sq sn sc n w (some (setU p.d ⟨3,T.data.toList,a,b,m⟩ [])) := by
 have HA := Lib.hid (AB.new hU #[Value.int .u8 3,.string T,.bool a,.bool b,.int .u64 (m : Int)])
 have CR := Lib.hid (fun W => (show Calls Tryz.prog 25 #[.agg #[.int .u8 3,.string T,.bool a,.bool b,.int .u64 (m : Int)]] W (fun e w' => e = .returned (.bool true) ∧ Below W.heap.size W w') from by
  have h := right_any 3 m T a b W hz hm (by decide)
  unfold RightC at h
  rw [hr] at h
  exact h))
 obtain ⟨n1,n2,n3⟩ := few_nums hU hf
 have HEm := Lib.hid (And.intro hU.em hU.mb)
 have HRr := Lib.hid hr
 clear hr
 unfold ApG
 obtain ⟨N,on,np,qh,nh,ch,mm,qk,nk,ck,qc,nc,cc,d⟩ := p
 have HCs := Lib.hid (ucs_size ⟨N,on,np,qh,nh,ch,mm,qk,nk,ck,qc,nc,cc,d⟩)
 have HOn := Lib.hid (user_one N on np qh qk qc nh ch nk ck nc cc mm)
 simp only [ucs,ucs0] at HA HCs HOn n1 n2 n3 HEm
 have e1 : decide ((64 : Int) < (nh : Int)) = false := decide_eq_false (by omega)
 have e2 : decide ((64 : Int) < (nk : Int)) = false := decide_eq_false (by omega)
 have e3 : decide ((64 : Int) < (nc : Int)) = false := decide_eq_false (by omega)
 have HF := Lib.hid hf
 clear hU hf
 show Calls Tryz.prog 11 #[.agg #[.string N,.bool on,.bool np,.slice qh nh ch,.int .u64 mm,.slice qk nk ck,.slice qc nc cc],.agg #[.int .u8 3,.string T,.bool a,.bool b,.int .u64 (m : Int)],.slice sq sn sc,.int .i64 n] w _
 go_enter Tryz.func11,Tryz.ntmps11
 go_upto_region 1 with fail
 generalize ((w.alloc _).alloc _).alloc _ = w1 at HA ⊢
 obtain ⟨c0,c1,c2,c3,c4⟩ := box_cells HA.out.br
 go_wp2_with fail
 refine (CR.out _).mono ?_
 rintro e w2 ⟨rfl,hb2⟩
 have HA2 := Lib.hid (HA.out.keep hb2)
 clear hb2 HA CR c0 c1 c2 c3 c4
 obtain ⟨u0,u1,u2,u3,u4,u5,u6⟩ := u_cells HA2.out.bx
 have HO := Lib.hid (AO.new HA2.out)
 simp only [ucs] at HO
 go_upto_region 5 with fail
 generalize w2.heap.size = g at HO ⊢
 generalize w2.alloc _ = w3 at HO ⊢
 clear u0 u1 u2 u3 u4 u5 u6 HA2
 obtain ⟨c0,c1,c2,c3,c4⟩ := box_cells HO.out.ab.br
 obtain ⟨u0,u1,u2,u3,u4,u5,u6⟩ := u_cells HO.out.ab.bx
 obtain ⟨x0,x1,x2,x3,x4,x5,x6⟩ := u_cells HO.out.bo
 have fz := fun j => frozen_of_row _ _ j _ _ HO.out.bo
 have f0 := fz 0
 have f1 := fz 1
 have f2 := fz 2
 have f3 := fz 3
 have f4 := fz 4
 have f5 := fz 5
 have f6 := fz 6
 clear fz
 have HP := Lib.hid (AO.put HO.out ⟨N,on,true,qh,nh,ch,mm,qk,nk,ck,qc,nc,cc,{ d with np := true }⟩ 2 (.bool true) rfl { HO.out.io with ep := rfl } (fun k hk => HO.out.at_ k hk))
 clear HO
 go_upto_region 12 with fail
 generalize World.setCell _ _ _ = w4 at HP ⊢
 clear c0 c1 c2 c3 c4 u0 u1 u2 u3 u4 u5 u6 x0 x1 x2 x3 x4 x5 x6 f0 f1 f2 f3 f4 f5 f6
 obtain ⟨c0,c1,c2,c3,c4⟩ := box_cells HP.out.ab.br
 obtain ⟨u0,u1,u2,u3,u4,u5,u6⟩ := u_cells HP.out.ab.bx
 obtain ⟨x0,x1,x2,x3,x4,x5,x6⟩ := u_cells HP.out.bo
 have fz := fun j => frozen_of_row _ _ j _ _ HP.out.bo
 have f0 := fz 0
 have f1 := fz 1
 have f2 := fz 2
 have f3 := fz 3
 have f4 := fz 4
 have f5 := fz 5
 have f6 := fz 6
 clear fz
 have HQ := Lib.hid (AO.put HP.out ⟨N,on,true,none,0,0,mm,qk,nk,ck,qc,nc,cc,{ d with np := true,hs := [] }⟩ 3 (.slice none 0 0) rfl { HP.out.io with h := RowIn.nil _ _ } (fun k hk => HP.out.at_ k (by
  rcases hk with ⟨h0,_⟩ | h | h
  · exact absurd h0 (Nat.lt_irrefl 0)
  · exact Or.inr (Or.inl h)
  · exact Or.inr (Or.inr h))))
 clear HP
 go_upto_region 44 with fail
 generalize World.setCell _ _ _ = w5 at HQ ⊢
 clear c0 c1 c2 c3 c4 u0 u1 u2 u3 u4 u5 u6 x0 x1 x2 x3 x4 x5 x6 f0 f1 f2 f3 f4 f5 f6
 obtain ⟨c0,c1,c2,c3,c4⟩ := box_cells HQ.out.ab.br
 obtain ⟨u0,u1,u2,u3,u4,u5,u6⟩ := u_cells HQ.out.ab.bx
 obtain ⟨x0,x1,x2,x3,x4,x5,x6⟩ := u_cells HQ.out.bo
 have fz := fun j => frozen_of_row _ _ j _ _ HQ.out.bo
 have f0 := fz 0
 have f1 := fz 1
 have f2 := fz 2
 have f3 := fz 3
 have f4 := fz 4
 have f5 := fz 5
 have f6 := fz 6
 clear fz
 have HC9 := Lib.hid (ucs_size ⟨N,on,true,none,0,0,mm,qk,nk,ck,qc,nc,cc,{ d with np := true,hs := [] }⟩)
 have HO9 := Lib.hid (user_one (N) (on) (true) (none) (qk) (qc) (0) (0) (nk) (ck) (nc) (cc) (mm))
 simp only [ucs] at HC9
 go_wp2_with (with_reducible refine wpList_store_row rfl 26 (.tmp 8) (.tmp 151) rfl (w.heap.size + 2) #[.string N,.bool on,.bool true,.slice none 0 0,.int .u64 mm,.slice qk nk ck,.slice qc nc cc] rfl rfl 26 _ HQ.out.ab.bz HC9.out rfl HO9.out ?_)
 exact bodyPost_ret (results_cell_slot rfl _ _ (w.heap.size + 2) 26 #[.string N,.bool on,.bool true,.slice none 0 0,.int .u64 mm,.slice qk nk ck,.slice qc nc cc] (0,0) _ (.bool true) rfl (setRow_heap _ (w.heap.size + 2) _ _ _ _ HQ.out.ab.bz) Tryz.underlying26 rfl HC9.out rfl) rfl HQ.out.fin
set_option maxHeartbeats 4000000 in
theorem apply_4 (p : UP) (m : Nat) (T : ByteArray) (a b : Bool) (sq : Option Addr) (sn sc : Nat) (n : Int) (w : World) (hU : UIn w p) (hz : T.size ≤ 1048576) (hm : m < 18446744073709551616) (hf : fewB p.d = true) (hr : rightR ⟨4,T.data.toList,a,b,m⟩ = true) :
  ApG p 4 T a b (m : Int) sq sn sc n w (some (setU p.d ⟨4,T.data.toList,a,b,m⟩ [])) := by
 have HA := Lib.hid (AB.new hU #[Value.int .u8 4,.string T,.bool a,.bool b,.int .u64 (m : Int)])
 have CR := Lib.hid (fun W => (show Calls Tryz.prog 25 #[.agg #[.int .u8 4,.string T,.bool a,.bool b,.int .u64 (m : Int)]] W (fun e w' => e = .returned (.bool true) ∧ Below W.heap.size W w') from by
  have h := right_any 4 m T a b W hz hm (by decide)
  unfold RightC at h
  rw [hr] at h
  exact h))
 obtain ⟨n1,n2,n3⟩ := few_nums hU hf
 have HEm := Lib.hid (And.intro hU.em hU.mb)
 have HRr := Lib.hid hr
 clear hr
 unfold ApG
 obtain ⟨N,on,np,qh,nh,ch,mm,qk,nk,ck,qc,nc,cc,d⟩ := p
 have HCs := Lib.hid (ucs_size ⟨N,on,np,qh,nh,ch,mm,qk,nk,ck,qc,nc,cc,d⟩)
 have HOn := Lib.hid (user_one N on np qh qk qc nh ch nk ck nc cc mm)
 simp only [ucs,ucs0] at HA HCs HOn n1 n2 n3 HEm
 have e1 : decide ((64 : Int) < (nh : Int)) = false := decide_eq_false (by omega)
 have e2 : decide ((64 : Int) < (nk : Int)) = false := decide_eq_false (by omega)
 have e3 : decide ((64 : Int) < (nc : Int)) = false := decide_eq_false (by omega)
 have HF := Lib.hid hf
 clear hU hf
 show Calls Tryz.prog 11 #[.agg #[.string N,.bool on,.bool np,.slice qh nh ch,.int .u64 mm,.slice qk nk ck,.slice qc nc cc],.agg #[.int .u8 4,.string T,.bool a,.bool b,.int .u64 (m : Int)],.slice sq sn sc,.int .i64 n] w _
 go_enter Tryz.func11,Tryz.ntmps11
 go_upto_region 1 with fail
 generalize ((w.alloc _).alloc _).alloc _ = w1 at HA ⊢
 obtain ⟨c0,c1,c2,c3,c4⟩ := box_cells HA.out.br
 go_wp2_with fail
 refine (CR.out _).mono ?_
 rintro e w2 ⟨rfl,hb2⟩
 have HA2 := Lib.hid (HA.out.keep hb2)
 clear hb2 HA CR c0 c1 c2 c3 c4
 obtain ⟨u0,u1,u2,u3,u4,u5,u6⟩ := u_cells HA2.out.bx
 have HO := Lib.hid (AO.new HA2.out)
 simp only [ucs] at HO
 go_upto_region 5 with fail
 generalize w2.heap.size = g at HO ⊢
 generalize w2.alloc _ = w3 at HO ⊢
 clear u0 u1 u2 u3 u4 u5 u6 HA2
 obtain ⟨c0,c1,c2,c3,c4⟩ := box_cells HO.out.ab.br
 obtain ⟨u0,u1,u2,u3,u4,u5,u6⟩ := u_cells HO.out.ab.bx
 obtain ⟨x0,x1,x2,x3,x4,x5,x6⟩ := u_cells HO.out.bo
 have fz := fun j => frozen_of_row _ _ j _ _ HO.out.bo
 have f0 := fz 0
 have f1 := fz 1
 have f2 := fz 2
 have f3 := fz 3
 have f4 := fz 4
 have f5 := fz 5
 have f6 := fz 6
 clear fz
 have HP := Lib.hid (AO.put HO.out ⟨N,on,false,qh,nh,ch,mm,qk,nk,ck,qc,nc,cc,{ d with np := false }⟩ 2 (.bool false) rfl { HO.out.io with ep := rfl } (fun k hk => HO.out.at_ k hk))
 clear HO
 go_upto_region 12 with fail
 generalize World.setCell _ _ _ = w4 at HP ⊢
 clear c0 c1 c2 c3 c4 u0 u1 u2 u3 u4 u5 u6 x0 x1 x2 x3 x4 x5 x6 f0 f1 f2 f3 f4 f5 f6
 obtain ⟨c0,c1,c2,c3,c4⟩ := box_cells HP.out.ab.br
 obtain ⟨u0,u1,u2,u3,u4,u5,u6⟩ := u_cells HP.out.ab.bx
 obtain ⟨x0,x1,x2,x3,x4,x5,x6⟩ := u_cells HP.out.bo
 have fz := fun j => frozen_of_row _ _ j _ _ HP.out.bo
 have f0 := fz 0
 have f1 := fz 1
 have f2 := fz 2
 have f3 := fz 3
 have f4 := fz 4
 have f5 := fz 5
 have f6 := fz 6
 clear fz
 have HQ := Lib.hid (AO.put HP.out ⟨N,on,false,none,0,0,mm,qk,nk,ck,qc,nc,cc,{ d with np := false,hs := [] }⟩ 3 (.slice none 0 0) rfl { HP.out.io with h := RowIn.nil _ _ } (fun k hk => HP.out.at_ k (by
  rcases hk with ⟨h0,_⟩ | h | h
  · exact absurd h0 (Nat.lt_irrefl 0)
  · exact Or.inr (Or.inl h)
  · exact Or.inr (Or.inr h))))
 clear HP
 go_upto_region 44 with fail
 generalize World.setCell _ _ _ = w5 at HQ ⊢
 clear c0 c1 c2 c3 c4 u0 u1 u2 u3 u4 u5 u6 x0 x1 x2 x3 x4 x5 x6 f0 f1 f2 f3 f4 f5 f6
 obtain ⟨c0,c1,c2,c3,c4⟩ := box_cells HQ.out.ab.br
 obtain ⟨u0,u1,u2,u3,u4,u5,u6⟩ := u_cells HQ.out.ab.bx
 obtain ⟨x0,x1,x2,x3,x4,x5,x6⟩ := u_cells HQ.out.bo
 have fz := fun j => frozen_of_row _ _ j _ _ HQ.out.bo
 have f0 := fz 0
 have f1 := fz 1
 have f2 := fz 2
 have f3 := fz 3
 have f4 := fz 4
 have f5 := fz 5
 have f6 := fz 6
 clear fz
 have HC9 := Lib.hid (ucs_size ⟨N,on,false,none,0,0,mm,qk,nk,ck,qc,nc,cc,{ d with np := false,hs := [] }⟩)
 have HO9 := Lib.hid (user_one (N) (on) (false) (none) (qk) (qc) (0) (0) (nk) (ck) (nc) (cc) (mm))
 simp only [ucs] at HC9
 go_wp2_with (with_reducible refine wpList_store_row rfl 26 (.tmp 8) (.tmp 151) rfl (w.heap.size + 2) #[.string N,.bool on,.bool false,.slice none 0 0,.int .u64 mm,.slice qk nk ck,.slice qc nc cc] rfl rfl 26 _ HQ.out.ab.bz HC9.out rfl HO9.out ?_)
 exact bodyPost_ret (results_cell_slot rfl _ _ (w.heap.size + 2) 26 #[.string N,.bool on,.bool false,.slice none 0 0,.int .u64 mm,.slice qk nk ck,.slice qc nc cc] (0,0) _ (.bool true) rfl (setRow_heap _ (w.heap.size + 2) _ _ _ _ HQ.out.ab.bz) Tryz.underlying26 rfl HC9.out rfl) rfl HQ.out.fin
end Go.Proofs.YtpoinibckmbfcaaGreatDoor.RefUser
namespace Go.Proofs.YtpoinibckmbfcaaGreatDoor.RefUser
open Go.RowKit Kit StrT RowG RuleT UserT UserR TableMath Low ValT
open Go.Sort (grow)
open RefRule (results_cell_slot)
set_option linter.unusedVariables false
set_option maxRecDepth 100000
set_option maxHeartbeats 4000000 in
theorem apply_8 (p : UP) (m : Nat) (T : ByteArray) (a b : Bool) (sq : Option Addr) (sn sc : Nat) (n : Int) (w : World) (hU : UIn w p) (hz : T.size ≤ 1048576) (hm : m < 18446744073709551616) (hf : fewB p.d = true) (hr : rightR ⟨8,T.data.toList,a,b,m⟩ = true) :
  ApG p 8 T a b (m : Int) sq sn sc n w (some (setU p.d ⟨8,T.data.toList,a,b,m⟩ [])) := by
 have HA := Lib.hid (AB.new hU #[Value.int .u8 8,.string T,.bool a,.bool b,.int .u64 (m : Int)])
 have CR := Lib.hid (fun W => (show Calls Tryz.prog 25 #[.agg #[.int .u8 8,.string T,.bool a,.bool b,.int .u64 (m : Int)]] W (fun e w' => e = .returned (.bool true) ∧ Below W.heap.size W w') from by
  have h := right_any 8 m T a b W hz hm (by decide)
  unfold RightC at h
  rw [hr] at h
  exact h))
 obtain ⟨n1,n2,n3⟩ := few_nums hU hf
 have HEm := Lib.hid (And.intro hU.em hU.mb)
 have HRr := Lib.hid hr
 clear hr
 unfold ApG
 obtain ⟨N,on,np,qh,nh,ch,mm,qk,nk,ck,qc,nc,cc,d⟩ := p
 have HCs := Lib.hid (ucs_size ⟨N,on,np,qh,nh,ch,mm,qk,nk,ck,qc,nc,cc,d⟩)
 have HOn := Lib.hid (user_one N on np qh qk qc nh ch nk ck nc cc mm)
 simp only [ucs,ucs0] at HA HCs HOn n1 n2 n3 HEm
 have e1 : decide ((64 : Int) < (nh : Int)) = false := decide_eq_false (by omega)
 have e2 : decide ((64 : Int) < (nk : Int)) = false := decide_eq_false (by omega)
 have e3 : decide ((64 : Int) < (nc : Int)) = false := decide_eq_false (by omega)
 have HF := Lib.hid hf
 clear hU hf
 show Calls Tryz.prog 11 #[.agg #[.string N,.bool on,.bool np,.slice qh nh ch,.int .u64 mm,.slice qk nk ck,.slice qc nc cc],.agg #[.int .u8 8,.string T,.bool a,.bool b,.int .u64 (m : Int)],.slice sq sn sc,.int .i64 n] w _
 go_enter Tryz.func11,Tryz.ntmps11
 go_upto_region 1 with fail
 generalize ((w.alloc _).alloc _).alloc _ = w1 at HA ⊢
 obtain ⟨c0,c1,c2,c3,c4⟩ := box_cells HA.out.br
 go_wp2_with fail
 refine (CR.out _).mono ?_
 rintro e w2 ⟨rfl,hb2⟩
 have HA2 := Lib.hid (HA.out.keep hb2)
 clear hb2 HA CR c0 c1 c2 c3 c4
 obtain ⟨u0,u1,u2,u3,u4,u5,u6⟩ := u_cells HA2.out.bx
 have HO := Lib.hid (AO.new HA2.out)
 simp only [ucs] at HO
 go_upto_region 5 with fail
 generalize w2.heap.size = g at HO ⊢
 generalize w2.alloc _ = w3 at HO ⊢
 clear u0 u1 u2 u3 u4 u5 u6 HA2
 obtain ⟨c0,c1,c2,c3,c4⟩ := box_cells HO.out.ab.br
 obtain ⟨u0,u1,u2,u3,u4,u5,u6⟩ := u_cells HO.out.ab.bx
 obtain ⟨x0,x1,x2,x3,x4,x5,x6⟩ := u_cells HO.out.bo
 have fz := fun j => frozen_of_row _ _ j _ _ HO.out.bo
 have f0 := fz 0
 have f1 := fz 1
 have f2 := fz 2
 have f3 := fz 3
 have f4 := fz 4
 have f5 := fz 5
 have f6 := fz 6
 clear fz
 have HV := Lib.hid (show bits .or .u64 mm (m : Int) = ((d.cmds ||| m : Nat) : Int) ∧ (d.cmds ||| m) < 18446744073709551616 by rw [HEm.out.1]; exact or_nat _ _ HEm.out.2 hm)
 have HP := Lib.hid (AO.put HO.out ⟨N,on,np,qh,nh,ch,(bits .or .u64 mm (m : Int)),qk,nk,ck,qc,nc,cc,{ d with cmds := d.cmds ||| m }⟩ 4 (.int .u64 (bits .or .u64 mm (m : Int))) rfl { HO.out.io with em := HV.out.1,mb := HV.out.2 } (fun k hk => HO.out.at_ k hk))
 clear HO
 go_upto_region 44 with fail
 generalize World.setCell _ _ _ = w4 at HP ⊢
 clear c0 c1 c2 c3 c4 u0 u1 u2 u3 u4 u5 u6 x0 x1 x2 x3 x4 x5 x6 f0 f1 f2 f3 f4 f5 f6
 obtain ⟨c0,c1,c2,c3,c4⟩ := box_cells HP.out.ab.br
 obtain ⟨u0,u1,u2,u3,u4,u5,u6⟩ := u_cells HP.out.ab.bx
 obtain ⟨x0,x1,x2,x3,x4,x5,x6⟩ := u_cells HP.out.bo
 have fz := fun j => frozen_of_row _ _ j _ _ HP.out.bo
 have f0 := fz 0
 have f1 := fz 1
 have f2 := fz 2
 have f3 := fz 3
 have f4 := fz 4
 have f5 := fz 5
 have f6 := fz 6
 clear fz
 generalize bits .or .u64 mm (m : Int) = V at HP x4 HV ⊢
 have HC9 := Lib.hid (ucs_size ⟨N,on,np,qh,nh,ch,V,qk,nk,ck,qc,nc,cc,{ d with cmds := d.cmds ||| m }⟩)
 have HO9 := Lib.hid (user_one (N) (on) (np) (qh) (qk) (qc) (nh) (ch) (nk) (ck) (nc) (cc) (V))
 simp only [ucs] at HC9
 go_wp2_with (with_reducible refine wpList_store_row rfl 26 (.tmp 8) (.tmp 151) rfl (w.heap.size + 2) #[.string N,.bool on,.bool np,.slice qh nh ch,.int .u64 V,.slice qk nk ck,.slice qc nc cc] rfl rfl 26 _ HP.out.ab.bz HC9.out rfl HO9.out ?_)
 exact bodyPost_ret (results_cell_slot rfl _ _ (w.heap.size + 2) 26 #[.string N,.bool on,.bool np,.slice qh nh ch,.int .u64 V,.slice qk nk ck,.slice qc nc cc] (0,0) _ (.bool true) rfl (setRow_heap _ (w.heap.size + 2) _ _ _ _ HP.out.ab.bz) Tryz.underlying26 rfl HC9.out rfl) rfl HP.out.fin
set_option maxHeartbeats 4000000 in
theorem apply_9 (p : UP) (m : Nat) (T : ByteArray) (a b : Bool) (sq : Option Addr) (sn sc : Nat) (n : Int) (w : World) (hU : UIn w p) (hz : T.size ≤ 1048576) (hm : m < 18446744073709551616) (hf : fewB p.d = true) (hr : rightR ⟨9,T.data.toList,a,b,m⟩ = true) :
  ApG p 9 T a b (m : Int) sq sn sc n w (some (setU p.d ⟨9,T.data.toList,a,b,m⟩ [])) := by
 have HA := Lib.hid (AB.new hU #[Value.int .u8 9,.string T,.bool a,.bool b,.int .u64 (m : Int)])
 have CR := Lib.hid (fun W => (show Calls Tryz.prog 25 #[.agg #[.int .u8 9,.string T,.bool a,.bool b,.int .u64 (m : Int)]] W (fun e w' => e = .returned (.bool true) ∧ Below W.heap.size W w') from by
  have h := right_any 9 m T a b W hz hm (by decide)
  unfold RightC at h
  rw [hr] at h
  exact h))
 obtain ⟨n1,n2,n3⟩ := few_nums hU hf
 have HEm := Lib.hid (And.intro hU.em hU.mb)
 have HRr := Lib.hid hr
 clear hr
 unfold ApG
 obtain ⟨N,on,np,qh,nh,ch,mm,qk,nk,ck,qc,nc,cc,d⟩ := p
 have HCs := Lib.hid (ucs_size ⟨N,on,np,qh,nh,ch,mm,qk,nk,ck,qc,nc,cc,d⟩)
 have HOn := Lib.hid (user_one N on np qh qk qc nh ch nk ck nc cc mm)
 simp only [ucs,ucs0] at HA HCs HOn n1 n2 n3 HEm
 have e1 : decide ((64 : Int) < (nh : Int)) = false := decide_eq_false (by omega)
 have e2 : decide ((64 : Int) < (nk : Int)) = false := decide_eq_false (by omega)
 have e3 : decide ((64 : Int) < (nc : Int)) = false := decide_eq_false (by omega)
 have HF := Lib.hid hf
 clear hU hf
 show Calls Tryz.prog 11 #[.agg #[.string N,.bool on,.bool np,.slice qh nh ch,.int .u64 mm,.slice qk nk ck,.slice qc nc cc],.agg #[.int .u8 9,.string T,.bool a,.bool b,.int .u64 (m : Int)],.slice sq sn sc,.int .i64 n] w _
 go_enter Tryz.func11,Tryz.ntmps11
 go_upto_region 1 with fail
 generalize ((w.alloc _).alloc _).alloc _ = w1 at HA ⊢
 obtain ⟨c0,c1,c2,c3,c4⟩ := box_cells HA.out.br
 go_wp2_with fail
 refine (CR.out _).mono ?_
 rintro e w2 ⟨rfl,hb2⟩
 have HA2 := Lib.hid (HA.out.keep hb2)
 clear hb2 HA CR c0 c1 c2 c3 c4
 obtain ⟨u0,u1,u2,u3,u4,u5,u6⟩ := u_cells HA2.out.bx
 have HO := Lib.hid (AO.new HA2.out)
 simp only [ucs] at HO
 go_upto_region 5 with fail
 generalize w2.heap.size = g at HO ⊢
 generalize w2.alloc _ = w3 at HO ⊢
 clear u0 u1 u2 u3 u4 u5 u6 HA2
 obtain ⟨c0,c1,c2,c3,c4⟩ := box_cells HO.out.ab.br
 obtain ⟨u0,u1,u2,u3,u4,u5,u6⟩ := u_cells HO.out.ab.bx
 obtain ⟨x0,x1,x2,x3,x4,x5,x6⟩ := u_cells HO.out.bo
 have fz := fun j => frozen_of_row _ _ j _ _ HO.out.bo
 have f0 := fz 0
 have f1 := fz 1
 have f2 := fz 2
 have f3 := fz 3
 have f4 := fz 4
 have f5 := fz 5
 have f6 := fz 6
 clear fz
 have HV := Lib.hid (show bits .andNot .u64 mm (m : Int) = ((d.cmds ^^^ (d.cmds &&& m) : Nat) : Int) ∧ (d.cmds ^^^ (d.cmds &&& m)) < 18446744073709551616 by rw [HEm.out.1]; exact andNot_nat _ _ HEm.out.2 hm)
 have HP := Lib.hid (AO.put HO.out ⟨N,on,np,qh,nh,ch,(bits .andNot .u64 mm (m : Int)),qk,nk,ck,qc,nc,cc,{ d with cmds := d.cmds ^^^ (d.cmds &&& m) }⟩ 4 (.int .u64 (bits .andNot .u64 mm (m : Int))) rfl { HO.out.io with em := HV.out.1,mb := HV.out.2 } (fun k hk => HO.out.at_ k hk))
 clear HO
 go_upto_region 44 with fail
 generalize World.setCell _ _ _ = w4 at HP ⊢
 clear c0 c1 c2 c3 c4 u0 u1 u2 u3 u4 u5 u6 x0 x1 x2 x3 x4 x5 x6 f0 f1 f2 f3 f4 f5 f6
 obtain ⟨c0,c1,c2,c3,c4⟩ := box_cells HP.out.ab.br
 obtain ⟨u0,u1,u2,u3,u4,u5,u6⟩ := u_cells HP.out.ab.bx
 obtain ⟨x0,x1,x2,x3,x4,x5,x6⟩ := u_cells HP.out.bo
 have fz := fun j => frozen_of_row _ _ j _ _ HP.out.bo
 have f0 := fz 0
 have f1 := fz 1
 have f2 := fz 2
 have f3 := fz 3
 have f4 := fz 4
 have f5 := fz 5
 have f6 := fz 6
 clear fz
 generalize bits .andNot .u64 mm (m : Int) = V at HP x4 HV ⊢
 have HC9 := Lib.hid (ucs_size ⟨N,on,np,qh,nh,ch,V,qk,nk,ck,qc,nc,cc,{ d with cmds := d.cmds ^^^ (d.cmds &&& m) }⟩)
 have HO9 := Lib.hid (user_one (N) (on) (np) (qh) (qk) (qc) (nh) (ch) (nk) (ck) (nc) (cc) (V))
 simp only [ucs] at HC9
 go_wp2_with (with_reducible refine wpList_store_row rfl 26 (.tmp 8) (.tmp 151) rfl (w.heap.size + 2) #[.string N,.bool on,.bool np,.slice qh nh ch,.int .u64 V,.slice qk nk ck,.slice qc nc cc] rfl rfl 26 _ HP.out.ab.bz HC9.out rfl HO9.out ?_)
 exact bodyPost_ret (results_cell_slot rfl _ _ (w.heap.size + 2) 26 #[.string N,.bool on,.bool np,.slice qh nh ch,.int .u64 V,.slice qk nk ck,.slice qc nc cc] (0,0) _ (.bool true) rfl (setRow_heap _ (w.heap.size + 2) _ _ _ _ HP.out.ab.bz) Tryz.underlying26 rfl HC9.out rfl) rfl HP.out.fin
set_option maxHeartbeats 4000000 in
theorem apply_11 (p : UP) (m : Nat) (T : ByteArray) (a b : Bool) (sq : Option Addr) (sn sc : Nat) (n : Int) (w : World) (hU : UIn w p) (hz : T.size ≤ 1048576) (hm : m < 18446744073709551616) (hf : fewB p.d = true) (hr : rightR ⟨11,T.data.toList,a,b,m⟩ = true) :
  ApG p 11 T a b (m : Int) sq sn sc n w (some (setU p.d ⟨11,T.data.toList,a,b,m⟩ [])) := by
 have HA := Lib.hid (AB.new hU #[Value.int .u8 11,.string T,.bool a,.bool b,.int .u64 (m : Int)])
 have CR := Lib.hid (fun W => (show Calls Tryz.prog 25 #[.agg #[.int .u8 11,.string T,.bool a,.bool b,.int .u64 (m : Int)]] W (fun e w' => e = .returned (.bool true) ∧ Below W.heap.size W w') from by
  have h := right_any 11 m T a b W hz hm (by decide)
  unfold RightC at h
  rw [hr] at h
  exact h))
 obtain ⟨n1,n2,n3⟩ := few_nums hU hf
 have HEm := Lib.hid (And.intro hU.em hU.mb)
 have HRr := Lib.hid hr
 clear hr
 unfold ApG
 obtain ⟨N,on,np,qh,nh,ch,mm,qk,nk,ck,qc,nc,cc,d⟩ := p
 have HCs := Lib.hid (ucs_size ⟨N,on,np,qh,nh,ch,mm,qk,nk,ck,qc,nc,cc,d⟩)
 have HOn := Lib.hid (user_one N on np qh qk qc nh ch nk ck nc cc mm)
 simp only [ucs,ucs0] at HA HCs HOn n1 n2 n3 HEm
 have e1 : decide ((64 : Int) < (nh : Int)) = false := decide_eq_false (by omega)
 have e2 : decide ((64 : Int) < (nk : Int)) = false := decide_eq_false (by omega)
 have e3 : decide ((64 : Int) < (nc : Int)) = false := decide_eq_false (by omega)
 have HF := Lib.hid hf
 clear hU hf
 show Calls Tryz.prog 11 #[.agg #[.string N,.bool on,.bool np,.slice qh nh ch,.int .u64 mm,.slice qk nk ck,.slice qc nc cc],.agg #[.int .u8 11,.string T,.bool a,.bool b,.int .u64 (m : Int)],.slice sq sn sc,.int .i64 n] w _
 go_enter Tryz.func11,Tryz.ntmps11
 go_upto_region 1 with fail
 generalize ((w.alloc _).alloc _).alloc _ = w1 at HA ⊢
 obtain ⟨c0,c1,c2,c3,c4⟩ := box_cells HA.out.br
 go_wp2_with fail
 refine (CR.out _).mono ?_
 rintro e w2 ⟨rfl,hb2⟩
 have HA2 := Lib.hid (HA.out.keep hb2)
 clear hb2 HA CR c0 c1 c2 c3 c4
 obtain ⟨u0,u1,u2,u3,u4,u5,u6⟩ := u_cells HA2.out.bx
 have HO := Lib.hid (AO.new HA2.out)
 simp only [ucs] at HO
 go_upto_region 5 with fail
 generalize w2.heap.size = g at HO ⊢
 generalize w2.alloc _ = w3 at HO ⊢
 clear u0 u1 u2 u3 u4 u5 u6 HA2
 obtain ⟨c0,c1,c2,c3,c4⟩ := box_cells HO.out.ab.br
 obtain ⟨u0,u1,u2,u3,u4,u5,u6⟩ := u_cells HO.out.ab.bx
 obtain ⟨x0,x1,x2,x3,x4,x5,x6⟩ := u_cells HO.out.bo
 have fz := fun j => frozen_of_row _ _ j _ _ HO.out.bo
 have f0 := fz 0
 have f1 := fz 1
 have f2 := fz 2
 have f3 := fz 3
 have f4 := fz 4
 have f5 := fz 5
 have f6 := fz 6
 clear fz
 have HP := Lib.hid (AO.put HO.out ⟨N,on,np,qh,nh,ch,mm,none,0,0,qc,nc,cc,{ d with ks := [] }⟩ 5 (.slice none 0 0) rfl { HO.out.io with k := RowIn.nil _ _ } (fun k hk => HO.out.at_ k (by
  rcases hk with h | ⟨h0,_⟩ | h
  · exact Or.inl h
  · exact absurd h0 (Nat.lt_irrefl 0)
  · exact Or.inr (Or.inr h))))
 clear HO
 go_upto_region 44 with fail
 generalize World.setCell _ _ _ = w4 at HP ⊢
 clear c0 c1 c2 c3 c4 u0 u1 u2 u3 u4 u5 u6 x0 x1 x2 x3 x4 x5 x6 f0 f1 f2 f3 f4 f5 f6
 obtain ⟨c0,c1,c2,c3,c4⟩ := box_cells HP.out.ab.br
 obtain ⟨u0,u1,u2,u3,u4,u5,u6⟩ := u_cells HP.out.ab.bx
 obtain ⟨x0,x1,x2,x3,x4,x5,x6⟩ := u_cells HP.out.bo
 have fz := fun j => frozen_of_row _ _ j _ _ HP.out.bo
 have f0 := fz 0
 have f1 := fz 1
 have f2 := fz 2
 have f3 := fz 3
 have f4 := fz 4
 have f5 := fz 5
 have f6 := fz 6
 clear fz
 have HC9 := Lib.hid (ucs_size ⟨N,on,np,qh,nh,ch,mm,none,0,0,qc,nc,cc,{ d with ks := [] }⟩)
 have HO9 := Lib.hid (user_one (N) (on) (np) (qh) (none) (qc) (nh) (ch) (0) (0) (nc) (cc) (mm))
 simp only [ucs] at HC9
 go_wp2_with (with_reducible refine wpList_store_row rfl 26 (.tmp 8) (.tmp 151) rfl (w.heap.size + 2) #[.string N,.bool on,.bool np,.slice qh nh ch,.int .u64 mm,.slice none 0 0,.slice qc nc cc] rfl rfl 26 _ HP.out.ab.bz HC9.out rfl HO9.out ?_)
 exact bodyPost_ret (results_cell_slot rfl _ _ (w.heap.size + 2) 26 #[.string N,.bool on,.bool np,.slice qh nh ch,.int .u64 mm,.slice none 0 0,.slice qc nc cc] (0,0) _ (.bool true) rfl (setRow_heap _ (w.heap.size + 2) _ _ _ _ HP.out.ab.bz) Tryz.underlying26 rfl HC9.out rfl) rfl HP.out.fin
set_option maxHeartbeats 4000000 in
theorem apply_13 (p : UP) (m : Nat) (T : ByteArray) (a b : Bool) (sq : Option Addr) (sn sc : Nat) (n : Int) (w : World) (hU : UIn w p) (hz : T.size ≤ 1048576) (hm : m < 18446744073709551616) (hf : fewB p.d = true) (hr : rightR ⟨13,T.data.toList,a,b,m⟩ = true) :
  ApG p 13 T a b (m : Int) sq sn sc n w (some (setU p.d ⟨13,T.data.toList,a,b,m⟩ [])) := by
 have HA := Lib.hid (AB.new hU #[Value.int .u8 13,.string T,.bool a,.bool b,.int .u64 (m : Int)])
 have CR := Lib.hid (fun W => (show Calls Tryz.prog 25 #[.agg #[.int .u8 13,.string T,.bool a,.bool b,.int .u64 (m : Int)]] W (fun e w' => e = .returned (.bool true) ∧ Below W.heap.size W w') from by
  have h := right_any 13 m T a b W hz hm (by decide)
  unfold RightC at h
  rw [hr] at h
  exact h))
 obtain ⟨n1,n2,n3⟩ := few_nums hU hf
 have HEm := Lib.hid (And.intro hU.em hU.mb)
 have HRr := Lib.hid hr
 clear hr
 unfold ApG
 obtain ⟨N,on,np,qh,nh,ch,mm,qk,nk,ck,qc,nc,cc,d⟩ := p
 have HCs := Lib.hid (ucs_size ⟨N,on,np,qh,nh,ch,mm,qk,nk,ck,qc,nc,cc,d⟩)
 have HOn := Lib.hid (user_one N on np qh qk qc nh ch nk ck nc cc mm)
 simp only [ucs,ucs0] at HA HCs HOn n1 n2 n3 HEm
 have e1 : decide ((64 : Int) < (nh : Int)) = false := decide_eq_false (by omega)
 have e2 : decide ((64 : Int) < (nk : Int)) = false := decide_eq_false (by omega)
 have e3 : decide ((64 : Int) < (nc : Int)) = false := decide_eq_false (by omega)
 have HF := Lib.hid hf
 clear hU hf
 show Calls Tryz.prog 11 #[.agg #[.string N,.bool on,.bool np,.slice qh nh ch,.int .u64 mm,.slice qk nk ck,.slice qc nc cc],.agg #[.int .u8 13,.string T,.bool a,.bool b,.int .u64 (m : Int)],.slice sq sn sc,.int .i64 n] w _
 go_enter Tryz.func11,Tryz.ntmps11
 go_upto_region 1 with fail
 generalize ((w.alloc _).alloc _).alloc _ = w1 at HA ⊢
 obtain ⟨c0,c1,c2,c3,c4⟩ := box_cells HA.out.br
 go_wp2_with fail
 refine (CR.out _).mono ?_
 rintro e w2 ⟨rfl,hb2⟩
 have HA2 := Lib.hid (HA.out.keep hb2)
 clear hb2 HA CR c0 c1 c2 c3 c4
 obtain ⟨u0,u1,u2,u3,u4,u5,u6⟩ := u_cells HA2.out.bx
 have HO := Lib.hid (AO.new HA2.out)
 simp only [ucs] at HO
 go_upto_region 5 with fail
 generalize w2.heap.size = g at HO ⊢
 generalize w2.alloc _ = w3 at HO ⊢
 clear u0 u1 u2 u3 u4 u5 u6 HA2
 obtain ⟨c0,c1,c2,c3,c4⟩ := box_cells HO.out.ab.br
 obtain ⟨u0,u1,u2,u3,u4,u5,u6⟩ := u_cells HO.out.ab.bx
 obtain ⟨x0,x1,x2,x3,x4,x5,x6⟩ := u_cells HO.out.bo
 have fz := fun j => frozen_of_row _ _ j _ _ HO.out.bo
 have f0 := fz 0
 have f1 := fz 1
 have f2 := fz 2
 have f3 := fz 3
 have f4 := fz 4
 have f5 := fz 5
 have f6 := fz 6
 clear fz
 have HP := Lib.hid (AO.put HO.out ⟨N,on,np,qh,nh,ch,mm,qk,nk,ck,none,0,0,{ d with cs := [] }⟩ 6 (.slice none 0 0) rfl { HO.out.io with c := RowIn.nil _ _ } (fun k hk => HO.out.at_ k (by
  rcases hk with h | h | ⟨h0,_⟩
  · exact Or.inl h
  · exact Or.inr (Or.inl h)
  · exact absurd h0 (Nat.lt_irrefl 0))))
 clear HO
 go_upto_region 44 with fail
 generalize World.setCell _ _ _ = w4 at HP ⊢
 clear c0 c1 c2 c3 c4 u0 u1 u2 u3 u4 u5 u6 x0 x1 x2 x3 x4 x5 x6 f0 f1 f2 f3 f4 f5 f6
 obtain ⟨c0,c1,c2,c3,c4⟩ := box_cells HP.out.ab.br
 obtain ⟨u0,u1,u2,u3,u4,u5,u6⟩ := u_cells HP.out.ab.bx
 obtain ⟨x0,x1,x2,x3,x4,x5,x6⟩ := u_cells HP.out.bo
 have fz := fun j => frozen_of_row _ _ j _ _ HP.out.bo
 have f0 := fz 0
 have f1 := fz 1
 have f2 := fz 2
 have f3 := fz 3
 have f4 := fz 4
 have f5 := fz 5
 have f6 := fz 6
 clear fz
 have HC9 := Lib.hid (ucs_size ⟨N,on,np,qh,nh,ch,mm,qk,nk,ck,none,0,0,{ d with cs := [] }⟩)
 have HO9 := Lib.hid (user_one (N) (on) (np) (qh) (qk) (none) (nh) (ch) (nk) (ck) (0) (0) (mm))
 simp only [ucs] at HC9
 go_wp2_with (with_reducible refine wpList_store_row rfl 26 (.tmp 8) (.tmp 151) rfl (w.heap.size + 2) #[.string N,.bool on,.bool np,.slice qh nh ch,.int .u64 mm,.slice qk nk ck,.slice none 0 0] rfl rfl 26 _ HP.out.ab.bz HC9.out rfl HO9.out ?_)
 exact bodyPost_ret (results_cell_slot rfl _ _ (w.heap.size + 2) 26 #[.string N,.bool on,.bool np,.slice qh nh ch,.int .u64 mm,.slice qk nk ck,.slice none 0 0] (0,0) _ (.bool true) rfl (setRow_heap _ (w.heap.size + 2) _ _ _ _ HP.out.ab.bz) Tryz.underlying26 rfl HC9.out rfl) rfl HP.out.fin
set_option maxHeartbeats 4000000 in
theorem apply_14 (p : UP) (m : Nat) (T : ByteArray) (a b : Bool) (sq : Option Addr) (sn sc : Nat) (n : Int) (w : World) (hU : UIn w p) (hz : T.size ≤ 1048576) (hm : m < 18446744073709551616) (hf : fewB p.d = true) (hr : rightR ⟨14,T.data.toList,a,b,m⟩ = true) :
  ApG p 14 T a b (m : Int) sq sn sc n w (some (setU p.d ⟨14,T.data.toList,a,b,m⟩ [])) := by
 have HA := Lib.hid (AB.new hU #[Value.int .u8 14,.string T,.bool a,.bool b,.int .u64 (m : Int)])
 have CR := Lib.hid (fun W => (show Calls Tryz.prog 25 #[.agg #[.int .u8 14,.string T,.bool a,.bool b,.int .u64 (m : Int)]] W (fun e w' => e = .returned (.bool true) ∧ Below W.heap.size W w') from by
  have h := right_any 14 m T a b W hz hm (by decide)
  unfold RightC at h
  rw [hr] at h
  exact h))
 obtain ⟨n1,n2,n3⟩ := few_nums hU hf
 have HEm := Lib.hid (And.intro hU.em hU.mb)
 have HRr := Lib.hid hr
 clear hr
 unfold ApG
 obtain ⟨N,on,np,qh,nh,ch,mm,qk,nk,ck,qc,nc,cc,d⟩ := p
 have HCs := Lib.hid (ucs_size ⟨N,on,np,qh,nh,ch,mm,qk,nk,ck,qc,nc,cc,d⟩)
 have HOn := Lib.hid (user_one N on np qh qk qc nh ch nk ck nc cc mm)
 simp only [ucs,ucs0] at HA HCs HOn n1 n2 n3 HEm
 have e1 : decide ((64 : Int) < (nh : Int)) = false := decide_eq_false (by omega)
 have e2 : decide ((64 : Int) < (nk : Int)) = false := decide_eq_false (by omega)
 have e3 : decide ((64 : Int) < (nc : Int)) = false := decide_eq_false (by omega)
 have HF := Lib.hid hf
 clear hU hf
 show Calls Tryz.prog 11 #[.agg #[.string N,.bool on,.bool np,.slice qh nh ch,.int .u64 mm,.slice qk nk ck,.slice qc nc cc],.agg #[.int .u8 14,.string T,.bool a,.bool b,.int .u64 (m : Int)],.slice sq sn sc,.int .i64 n] w _
 go_enter Tryz.func11,Tryz.ntmps11
 go_upto_region 1 with fail
 generalize ((w.alloc _).alloc _).alloc _ = w1 at HA ⊢
 obtain ⟨c0,c1,c2,c3,c4⟩ := box_cells HA.out.br
 go_wp2_with fail
 refine (CR.out _).mono ?_
 rintro e w2 ⟨rfl,hb2⟩
 have HA2 := Lib.hid (HA.out.keep hb2)
 clear hb2 HA CR c0 c1 c2 c3 c4
 obtain ⟨u0,u1,u2,u3,u4,u5,u6⟩ := u_cells HA2.out.bx
 have HO := Lib.hid (AO.new HA2.out)
 simp only [ucs] at HO
 go_upto_region 5 with fail
 generalize w2.heap.size = g at HO ⊢
 generalize w2.alloc _ = w3 at HO ⊢
 clear u0 u1 u2 u3 u4 u5 u6 HA2
 obtain ⟨c0,c1,c2,c3,c4⟩ := box_cells HO.out.ab.br
 obtain ⟨u0,u1,u2,u3,u4,u5,u6⟩ := u_cells HO.out.ab.bx
 obtain ⟨x0,x1,x2,x3,x4,x5,x6⟩ := u_cells HO.out.bo
 have fz := fun j => frozen_of_row _ _ j _ _ HO.out.bo
 have f0 := fz 0
 have f1 := fz 1
 have f2 := fz 2
 have f3 := fz 3
 have f4 := fz 4
 have f5 := fz 5
 have f6 := fz 6
 clear fz
 have bb : ∀ (S : ByteArray) (W : World),(Instr.build 26 #[(0,.string S)]).run Tryz.prog W = .ok (.agg #[.string S,.bool false,.bool false,.slice none 0 0,.int .u64 0,.slice none 0 0,.slice none 0 0]) W := fun S W => run_build W 26 _ _ (by kernel_rfl)
 have HN := Lib.hid HO.out.io.en
 have HP := Lib.hid (AO.row HO.out ⟨N,false,false,none,0,0,0,none,0,0,none,0,0,(newU d.name)⟩ ⟨HN.out,rfl,rfl,rfl,(show (0 : Nat) < 18446744073709551616 by decide),RowIn.nil _ _,RowIn.nil _ _,RowIn.nil _ _⟩ (fun k hk => absurd hk (newP_at N k)))
 simp only [ucs] at HP
 have HC8 := Lib.hid (ucs_size ⟨N,false,false,none,0,0,0,none,0,0,none,0,0,(newU d.name)⟩)
 have HO8 := Lib.hid (user_one N false false none none none 0 0 0 0 0 0 0)
 simp only [ucs] at HC8
 go_upto_region 44 with (with_reducible refine wpList_store_row rfl 26 (.tmp 11) (.tmp 133) rfl g #[.string N,.bool false,.bool false,.slice none 0 0,.int .u64 0,.slice none 0 0,.slice none 0 0] rfl rfl 26 _ HO.out.bo HC8.out rfl HO8.out ?_)
 generalize World.setRow _ _ _ = w4 at HP ⊢
 clear HO
 clear c0 c1 c2 c3 c4 u0 u1 u2 u3 u4 u5 u6 x0 x1 x2 x3 x4 x5 x6 f0 f1 f2 f3 f4 f5 f6
 obtain ⟨c0,c1,c2,c3,c4⟩ := box_cells HP.out.ab.br
 obtain ⟨u0,u1,u2,u3,u4,u5,u6⟩ := u_cells HP.out.ab.bx
 obtain ⟨x0,x1,x2,x3,x4,x5,x6⟩ := u_cells HP.out.bo
 have fz := fun j => frozen_of_row _ _ j _ _ HP.out.bo
 have f0 := fz 0
 have f1 := fz 1
 have f2 := fz 2
 have f3 := fz 3
 have f4 := fz 4
 have f5 := fz 5
 have f6 := fz 6
 clear fz
 have HC9 := Lib.hid (ucs_size ⟨N,false,false,none,0,0,0,none,0,0,none,0,0,(newU d.name)⟩)
 have HO9 := Lib.hid (user_one (N) (false) (false) (none) (none) (none) (0) (0) (0) (0) (0) (0) (0))
 simp only [ucs] at HC9
 go_wp2_with (with_reducible refine wpList_store_row rfl 26 (.tmp 8) (.tmp 151) rfl (w.heap.size + 2) #[.string N,.bool false,.bool false,.slice none 0 0,.int .u64 0,.slice none 0 0,.slice none 0 0] rfl rfl 26 _ HP.out.ab.bz HC9.out rfl HO9.out ?_)
 exact bodyPost_ret (results_cell_slot rfl _ _ (w.heap.size + 2) 26 #[.string N,.bool false,.bool false,.slice none 0 0,.int .u64 0,.slice none 0 0,.slice none 0 0] (0,0) _ (.bool true) rfl (setRow_heap _ (w.heap.size + 2) _ _ _ _ HP.out.ab.bz) Tryz.underlying26 rfl HC9.out rfl) rfl HP.out.fin
end Go.Proofs.YtpoinibckmbfcaaGreatDoor.RefUser
namespace Go.Proofs.YtpoinibckmbfcaaGreatDoor.RefUser
open Go.RowKit Kit StrT RowG RuleT UserT UserR TableMath Low ValT
open Go.Sort (grow)
open RefRule (results_cell_slot)
set_option linter.unusedVariables false
set_option maxRecDepth 100000
set_option maxHeartbeats 4000000 in
theorem apply_5 (p : UP) (m : Nat) (T : ByteArray) (a b : Bool) (sq : Option Addr) (sn sc : Nat) (n : Int) (w : World) (hU : UIn w p) (hz : T.size ≤ 1048576) (hm : m < 18446744073709551616) (hf : fewB p.d = true) (hr : rightR ⟨5,T.data.toList,a,b,m⟩ = true) (R : ByteArray) (H : List UInt8) (hR : R.data.toList = H) (hC : ∀ W,Below w.heap.size w W → Calls Tryz.prog 26 #[.string T,.slice sq sn sc,.int .i64 n] W fun e w' => e = .returned (.tuple #[.string R,.bool true]) ∧ Below W.heap.size W w') :
  ApG p 5 T a b (m : Int) sq sn sc n w (if (moreL p.d.hs H).length ≤ 64 then some (setU p.d ⟨5,T.data.toList,a,b,m⟩ H) else none) := by
 have HR5 := Lib.hid hR
 have HC5 := Lib.hid hC
 clear hC hR
 obtain ⟨oo,hoo⟩ : ∃ oo,oo = (if (moreL p.d.hs H).length ≤ 64 then some (setU p.d ⟨5,T.data.toList,a,b,m⟩ H) else none) := ⟨_,rfl⟩
 rw [← hoo]
 have HOO := Lib.hid hoo
 clear hoo
 have HA := Lib.hid (AB.new hU #[Value.int .u8 5,.string T,.bool a,.bool b,.int .u64 (m : Int)])
 have CR := Lib.hid (fun W => (show Calls Tryz.prog 25 #[.agg #[.int .u8 5,.string T,.bool a,.bool b,.int .u64 (m : Int)]] W (fun e w' => e = .returned (.bool true) ∧ Below W.heap.size W w') from by
  have h := right_any 5 m T a b W hz hm (by decide)
  unfold RightC at h
  rw [hr] at h
  exact h))
 obtain ⟨n1,n2,n3⟩ := few_nums hU hf
 have HEm := Lib.hid (And.intro hU.em hU.mb)
 have HRr := Lib.hid hr
 clear hr
 unfold ApG
 obtain ⟨N,on,np,qh,nh,ch,mm,qk,nk,ck,qc,nc,cc,d⟩ := p
 have HCs := Lib.hid (ucs_size ⟨N,on,np,qh,nh,ch,mm,qk,nk,ck,qc,nc,cc,d⟩)
 have HOn := Lib.hid (user_one N on np qh qk qc nh ch nk ck nc cc mm)
 simp only [ucs,ucs0] at HA HCs HOn n1 n2 n3 HEm
 have e1 : decide ((64 : Int) < (nh : Int)) = false := decide_eq_false (by omega)
 have e2 : decide ((64 : Int) < (nk : Int)) = false := decide_eq_false (by omega)
 have e3 : decide ((64 : Int) < (nc : Int)) = false := decide_eq_false (by omega)
 have HF := Lib.hid hf
 clear hU hf
 show Calls Tryz.prog 11 #[.agg #[.string N,.bool on,.bool np,.slice qh nh ch,.int .u64 mm,.slice qk nk ck,.slice qc nc cc],.agg #[.int .u8 5,.string T,.bool a,.bool b,.int .u64 (m : Int)],.slice sq sn sc,.int .i64 n] w _
 go_enter Tryz.func11,Tryz.ntmps11
 go_upto_region 1 with fail
 generalize ((w.alloc _).alloc _).alloc _ = w1 at HA ⊢
 obtain ⟨c0,c1,c2,c3,c4⟩ := box_cells HA.out.br
 go_wp2_with fail
 refine (CR.out _).mono ?_
 rintro e w2 ⟨rfl,hb2⟩
 have HA2 := Lib.hid (HA.out.keep hb2)
 clear hb2 HA CR c0 c1 c2 c3 c4
 obtain ⟨u0,u1,u2,u3,u4,u5,u6⟩ := u_cells HA2.out.bx
 have HO := Lib.hid (AO.new HA2.out)
 simp only [ucs] at HO
 go_upto_region 5 with fail
 generalize w2.heap.size = g at HO ⊢
 generalize w2.alloc _ = w3 at HO ⊢
 clear u0 u1 u2 u3 u4 u5 u6 HA2
 obtain ⟨c0,c1,c2,c3,c4⟩ := box_cells HO.out.ab.br
 obtain ⟨u0,u1,u2,u3,u4,u5,u6⟩ := u_cells HO.out.ab.bx
 obtain ⟨x0,x1,x2,x3,x4,x5,x6⟩ := u_cells HO.out.bo
 have fz := fun j => frozen_of_row _ _ j _ _ HO.out.bo
 have f0 := fz 0
 have f1 := fz 1
 have f2 := fz 2
 have f3 := fz 3
 have f4 := fz 4
 have f5 := fz 5
 have f6 := fz 6
 clear fz
 go_wp2_with fail
 refine (HC5.out _ HO.out.ab.bel).mono ?_
 rintro e w3b ⟨rfl,hb5⟩
 have HOb := Lib.hid (HO.out.keep hb5)
 clear hb5 HO HC5
 clear c0 c1 c2 c3 c4 u0 u1 u2 u3 u4 u5 u6 x0 x1 x2 x3 x4 x5 x6 f0 f1 f2 f3 f4 f5 f6
 obtain ⟨c0,c1,c2,c3,c4⟩ := box_cells HOb.out.ab.br
 obtain ⟨u0,u1,u2,u3,u4,u5,u6⟩ := u_cells HOb.out.ab.bx
 obtain ⟨x0,x1,x2,x3,x4,x5,x6⟩ := u_cells HOb.out.bo
 have fz := fun j => frozen_of_row _ _ j _ _ HOb.out.bo
 have f0 := fz 0
 have f1 := fz 1
 have f2 := fz 2
 have f3 := fz 3
 have f4 := fz 4
 have f5 := fz 5
 have f6 := fz 6
 clear fz
 have CM := Lib.hid (fun W (hw : RowIn strE W qh nh ch d.hs) => more_any qh d.hs nh ch R H W hw HR5.out (by omega))
 go_wp2_with fail
 refine (CM.out _ HOb.out.io.h).mono ?_
 rintro e w4 ⟨q5,k5,rfl,hr5,hf5,hb5⟩
 have HG5 := Lib.hid (show ∀ x,q5 = some x → g < x.block from fun x hx => Nat.lt_of_lt_of_le HOb.out.lt (hf5 x hx))
 have HR9 := Lib.hid hr5
 have HN9 := Lib.hid (HOb.out.keep hb5)
 clear hb5 hf5 hr5 CM HOb
 clear c0 c1 c2 c3 c4 u0 u1 u2 u3 u4 u5 u6 x0 x1 x2 x3 x4 x5 x6 f0 f1 f2 f3 f4 f5 f6
 obtain ⟨n5,hn5⟩ : ∃ x,x = (moreL d.hs H).length := ⟨_,rfl⟩
 have HLn := Lib.hid hn5.symm
 rw [← hn5] at HR9 ⊢
 clear hn5
 obtain ⟨c0,c1,c2,c3,c4⟩ := box_cells HN9.out.ab.br
 obtain ⟨u0,u1,u2,u3,u4,u5,u6⟩ := u_cells HN9.out.ab.bx
 obtain ⟨x0,x1,x2,x3,x4,x5,x6⟩ := u_cells HN9.out.bo
 have fz := fun j => frozen_of_row _ _ j _ _ HN9.out.bo
 have f0 := fz 0
 have f1 := fz 1
 have f2 := fz 2
 have f3 := fz 3
 have f4 := fz 4
 have f5 := fz 5
 have f6 := fz 6
 clear fz
 have HP := Lib.hid (AO.put HN9.out ⟨N,on,np,q5,n5,k5,mm,qk,nk,ck,qc,nc,cc,{ d with hs := moreL d.hs H }⟩ 3 (.slice q5 n5 k5) rfl { HN9.out.io with h := HR9.out } (fun k hk => by
  rcases hk with ⟨h0,x,hx,e⟩ | h | h
  · exact Or.inr (by have := HG5.out x hx; omega)
  · exact HN9.out.at_ k (Or.inr (Or.inl h))
  · exact HN9.out.at_ k (Or.inr (Or.inr h))))
 clear HN9
 go_upto_region 22 with fail
 generalize World.setCell _ _ _ = w5 at HP ⊢
 clear c0 c1 c2 c3 c4 u0 u1 u2 u3 u4 u5 u6 x0 x1 x2 x3 x4 x5 x6 f0 f1 f2 f3 f4 f5 f6
 obtain ⟨c0,c1,c2,c3,c4⟩ := box_cells HP.out.ab.br
 obtain ⟨u0,u1,u2,u3,u4,u5,u6⟩ := u_cells HP.out.ab.bx
 obtain ⟨x0,x1,x2,x3,x4,x5,x6⟩ := u_cells HP.out.bo
 have fz := fun j => frozen_of_row _ _ j _ _ HP.out.bo
 have f0 := fz 0
 have f1 := fz 1
 have f2 := fz 2
 have f3 := fz 3
 have f4 := fz 4
 have f5 := fz 5
 have f6 := fz 6
 clear fz
 have HQ := Lib.hid (AO.put HP.out ⟨N,on,false,q5,n5,k5,mm,qk,nk,ck,qc,nc,cc,{ d with np := false,hs := moreL d.hs H }⟩ 2 (.bool false) rfl { HP.out.io with ep := rfl } (fun k hk => HP.out.at_ k hk))
 clear HP
 go_upto_region 44 with fail
 generalize World.setCell _ _ _ = w6 at HQ ⊢
 clear c0 c1 c2 c3 c4 u0 u1 u2 u3 u4 u5 u6 x0 x1 x2 x3 x4 x5 x6 f0 f1 f2 f3 f4 f5 f6
 obtain ⟨c0,c1,c2,c3,c4⟩ := box_cells HQ.out.ab.br
 obtain ⟨u0,u1,u2,u3,u4,u5,u6⟩ := u_cells HQ.out.ab.bx
 obtain ⟨x0,x1,x2,x3,x4,x5,x6⟩ := u_cells HQ.out.bo
 have fz := fun j => frozen_of_row _ _ j _ _ HQ.out.bo
 have f0 := fz 0
 have f1 := fz 1
 have f2 := fz 2
 have f3 := fz 3
 have f4 := fz 4
 have f5 := fz 5
 have f6 := fz 6
 clear fz
 by_cases h64 : n5 ≤ 64
 · have e4 : decide ((64 : Int) < (n5 : Int)) = false := decide_eq_false (by omega)
   have HEd := Lib.hid (HOO.out.trans (if_pos (show (moreL d.hs H).length ≤ 64 by rw [HLn.out]; exact h64)))
   have HC9 := Lib.hid (ucs_size ⟨N,on,false,q5,n5,k5,mm,qk,nk,ck,qc,nc,cc,{ d with np := false,hs := moreL d.hs H }⟩)
   have HO9 := Lib.hid (user_one (N) (on) (false) (q5) (qk) (qc) (n5) (k5) (nk) (ck) (nc) (cc) (mm))
   simp only [ucs] at HC9
   go_wp2_with (with_reducible refine wpList_store_row rfl 26 (.tmp 8) (.tmp 151) rfl (w.heap.size + 2) #[.string N,.bool on,.bool false,.slice q5 n5 k5,.int .u64 mm,.slice qk nk ck,.slice qc nc cc] rfl rfl 26 _ HQ.out.ab.bz HC9.out rfl HO9.out ?_)
   exact bodyPost_ret (results_cell_slot rfl _ _ (w.heap.size + 2) 26 #[.string N,.bool on,.bool false,.slice q5 n5 k5,.int .u64 mm,.slice qk nk ck,.slice qc nc cc] (0,0) _ (.bool true) rfl (setRow_heap _ (w.heap.size + 2) _ _ _ _ HQ.out.ab.bz) Tryz.underlying26 rfl HC9.out rfl) rfl (by rw [HEd.out]; exact HQ.out.fin)
 · have e4 : decide ((64 : Int) < (n5 : Int)) = true := decide_eq_true (by omega)
   have HEd := Lib.hid (HOO.out.trans (if_neg (show ¬ (moreL d.hs H).length ≤ 64 by rw [HLn.out]; exact h64)))
   go_wp2_with (with_reducible refine wpList_store_row rfl 26 (.tmp 8) (.tmp 150) rfl (w.heap.size + 2) #[.string N,.bool on,.bool np,.slice qh nh ch,.int .u64 mm,.slice qk nk ck,.slice qc nc cc] rfl rfl 26 _ HQ.out.ab.bz HCs.out rfl HOn.out ?_)
   exact bodyPost_ret (results_cell_slot rfl _ _ (w.heap.size + 2) 26 #[.string N,.bool on,.bool np,.slice qh nh ch,.int .u64 mm,.slice qk nk ck,.slice qc nc cc] (0,0) _ (.bool false) rfl (setRow_heap _ (w.heap.size + 2) _ _ _ _ HQ.out.ab.bz) Tryz.underlying26 rfl HCs.out rfl) rfl (by rw [HEd.out]; exact HQ.out.ab.fin)
set_option maxHeartbeats 4000000 in
theorem apply_6 (p : UP) (m : Nat) (T : ByteArray) (a b : Bool) (sq : Option Addr) (sn sc : Nat) (n : Int) (w : World) (hU : UIn w p) (hz : T.size ≤ 1048576) (hm : m < 18446744073709551616) (hf : fewB p.d = true) (hr : rightR ⟨6,T.data.toList,a,b,m⟩ = true) :
  ApG p 6 T a b (m : Int) sq sn sc n w (if (moreL p.d.hs T.data.toList).length ≤ 64 then some (setU p.d ⟨6,T.data.toList,a,b,m⟩ []) else none) := by
 obtain ⟨oo,hoo⟩ : ∃ oo,oo = (if (moreL p.d.hs T.data.toList).length ≤ 64 then some (setU p.d ⟨6,T.data.toList,a,b,m⟩ []) else none) := ⟨_,rfl⟩
 rw [← hoo]
 have HOO := Lib.hid hoo
 clear hoo
 have HA := Lib.hid (AB.new hU #[Value.int .u8 6,.string T,.bool a,.bool b,.int .u64 (m : Int)])
 have CR := Lib.hid (fun W => (show Calls Tryz.prog 25 #[.agg #[.int .u8 6,.string T,.bool a,.bool b,.int .u64 (m : Int)]] W (fun e w' => e = .returned (.bool true) ∧ Below W.heap.size W w') from by
  have h := right_any 6 m T a b W hz hm (by decide)
  unfold RightC at h
  rw [hr] at h
  exact h))
 obtain ⟨n1,n2,n3⟩ := few_nums hU hf
 have HEm := Lib.hid (And.intro hU.em hU.mb)
 have HRr := Lib.hid hr
 clear hr
 unfold ApG
 obtain ⟨N,on,np,qh,nh,ch,mm,qk,nk,ck,qc,nc,cc,d⟩ := p
 have HCs := Lib.hid (ucs_size ⟨N,on,np,qh,nh,ch,mm,qk,nk,ck,qc,nc,cc,d⟩)
 have HOn := Lib.hid (user_one N on np qh qk qc nh ch nk ck nc cc mm)
 simp only [ucs,ucs0] at HA HCs HOn n1 n2 n3 HEm
 have e1 : decide ((64 : Int) < (nh : Int)) = false := decide_eq_false (by omega)
 have e2 : decide ((64 : Int) < (nk : Int)) = false := decide_eq_false (by omega)
 have e3 : decide ((64 : Int) < (nc : Int)) = false := decide_eq_false (by omega)
 have HF := Lib.hid hf
 clear hU hf
 show Calls Tryz.prog 11 #[.agg #[.string N,.bool on,.bool np,.slice qh nh ch,.int .u64 mm,.slice qk nk ck,.slice qc nc cc],.agg #[.int .u8 6,.string T,.bool a,.bool b,.int .u64 (m : Int)],.slice sq sn sc,.int .i64 n] w _
 go_enter Tryz.func11,Tryz.ntmps11
 go_upto_region 1 with fail
 generalize ((w.alloc _).alloc _).alloc _ = w1 at HA ⊢
 obtain ⟨c0,c1,c2,c3,c4⟩ := box_cells HA.out.br
 go_wp2_with fail
 refine (CR.out _).mono ?_
 rintro e w2 ⟨rfl,hb2⟩
 have HA2 := Lib.hid (HA.out.keep hb2)
 clear hb2 HA CR c0 c1 c2 c3 c4
 obtain ⟨u0,u1,u2,u3,u4,u5,u6⟩ := u_cells HA2.out.bx
 have HO := Lib.hid (AO.new HA2.out)
 simp only [ucs] at HO
 go_upto_region 5 with fail
 generalize w2.heap.size = g at HO ⊢
 generalize w2.alloc _ = w3 at HO ⊢
 clear u0 u1 u2 u3 u4 u5 u6 HA2
 obtain ⟨c0,c1,c2,c3,c4⟩ := box_cells HO.out.ab.br
 obtain ⟨u0,u1,u2,u3,u4,u5,u6⟩ := u_cells HO.out.ab.bx
 obtain ⟨x0,x1,x2,x3,x4,x5,x6⟩ := u_cells HO.out.bo
 have fz := fun j => frozen_of_row _ _ j _ _ HO.out.bo
 have f0 := fz 0
 have f1 := fz 1
 have f2 := fz 2
 have f3 := fz 3
 have f4 := fz 4
 have f5 := fz 5
 have f6 := fz 6
 clear fz
 have CM := Lib.hid (fun W (hw : RowIn strE W qh nh ch d.hs) => more_any qh d.hs nh ch T T.data.toList W hw rfl (by omega))
 go_wp2_with fail
 refine (CM.out _ HO.out.io.h).mono ?_
 rintro e w4 ⟨q5,k5,rfl,hr5,hf5,hb5⟩
 have HG5 := Lib.hid (show ∀ x,q5 = some x → g < x.block from fun x hx => Nat.lt_of_lt_of_le HO.out.lt (hf5 x hx))
 have HR9 := Lib.hid hr5
 have HN9 := Lib.hid (HO.out.keep hb5)
 clear hb5 hf5 hr5 CM HO
 clear c0 c1 c2 c3 c4 u0 u1 u2 u3 u4 u5 u6 x0 x1 x2 x3 x4 x5 x6 f0 f1 f2 f3 f4 f5 f6
 obtain ⟨n5,hn5⟩ : ∃ x,x = (moreL d.hs T.data.toList).length := ⟨_,rfl⟩
 have HLn := Lib.hid hn5.symm
 rw [← hn5] at HR9 ⊢
 clear hn5
 obtain ⟨c0,c1,c2,c3,c4⟩ := box_cells HN9.out.ab.br
 obtain ⟨u0,u1,u2,u3,u4,u5,u6⟩ := u_cells HN9.out.ab.bx
 obtain ⟨x0,x1,x2,x3,x4,x5,x6⟩ := u_cells HN9.out.bo
 have fz := fun j => frozen_of_row _ _ j _ _ HN9.out.bo
 have f0 := fz 0
 have f1 := fz 1
 have f2 := fz 2
 have f3 := fz 3
 have f4 := fz 4
 have f5 := fz 5
 have f6 := fz 6
 clear fz
 have HP := Lib.hid (AO.put HN9.out ⟨N,on,np,q5,n5,k5,mm,qk,nk,ck,qc,nc,cc,{ d with hs := moreL d.hs T.data.toList }⟩ 3 (.slice q5 n5 k5) rfl { HN9.out.io with h := HR9.out } (fun k hk => by
  rcases hk with ⟨h0,x,hx,e⟩ | h | h
  · exact Or.inr (by have := HG5.out x hx; omega)
  · exact HN9.out.at_ k (Or.inr (Or.inl h))
  · exact HN9.out.at_ k (Or.inr (Or.inr h))))
 clear HN9
 go_upto_region 22 with fail
 generalize World.setCell _ _ _ = w5 at HP ⊢
 clear c0 c1 c2 c3 c4 u0 u1 u2 u3 u4 u5 u6 x0 x1 x2 x3 x4 x5 x6 f0 f1 f2 f3 f4 f5 f6
 obtain ⟨c0,c1,c2,c3,c4⟩ := box_cells HP.out.ab.br
 obtain ⟨u0,u1,u2,u3,u4,u5,u6⟩ := u_cells HP.out.ab.bx
 obtain ⟨x0,x1,x2,x3,x4,x5,x6⟩ := u_cells HP.out.bo
 have fz := fun j => frozen_of_row _ _ j _ _ HP.out.bo
 have f0 := fz 0
 have f1 := fz 1
 have f2 := fz 2
 have f3 := fz 3
 have f4 := fz 4
 have f5 := fz 5
 have f6 := fz 6
 clear fz
 have HQ := Lib.hid (AO.put HP.out ⟨N,on,false,q5,n5,k5,mm,qk,nk,ck,qc,nc,cc,{ d with np := false,hs := moreL d.hs T.data.toList }⟩ 2 (.bool false) rfl { HP.out.io with ep := rfl } (fun k hk => HP.out.at_ k hk))
 clear HP
 go_upto_region 44 with fail
 generalize World.setCell _ _ _ = w6 at HQ ⊢
 clear c0 c1 c2 c3 c4 u0 u1 u2 u3 u4 u5 u6 x0 x1 x2 x3 x4 x5 x6 f0 f1 f2 f3 f4 f5 f6
 obtain ⟨c0,c1,c2,c3,c4⟩ := box_cells HQ.out.ab.br
 obtain ⟨u0,u1,u2,u3,u4,u5,u6⟩ := u_cells HQ.out.ab.bx
 obtain ⟨x0,x1,x2,x3,x4,x5,x6⟩ := u_cells HQ.out.bo
 have fz := fun j => frozen_of_row _ _ j _ _ HQ.out.bo
 have f0 := fz 0
 have f1 := fz 1
 have f2 := fz 2
 have f3 := fz 3
 have f4 := fz 4
 have f5 := fz 5
 have f6 := fz 6
 clear fz
 by_cases h64 : n5 ≤ 64
 · have e4 : decide ((64 : Int) < (n5 : Int)) = false := decide_eq_false (by omega)
   have HEd := Lib.hid (HOO.out.trans (if_pos (show (moreL d.hs T.data.toList).length ≤ 64 by rw [HLn.out]; exact h64)))
   have HC9 := Lib.hid (ucs_size ⟨N,on,false,q5,n5,k5,mm,qk,nk,ck,qc,nc,cc,{ d with np := false,hs := moreL d.hs T.data.toList }⟩)
   have HO9 := Lib.hid (user_one (N) (on) (false) (q5) (qk) (qc) (n5) (k5) (nk) (ck) (nc) (cc) (mm))
   simp only [ucs] at HC9
   go_wp2_with (with_reducible refine wpList_store_row rfl 26 (.tmp 8) (.tmp 151) rfl (w.heap.size + 2) #[.string N,.bool on,.bool false,.slice q5 n5 k5,.int .u64 mm,.slice qk nk ck,.slice qc nc cc] rfl rfl 26 _ HQ.out.ab.bz HC9.out rfl HO9.out ?_)
   exact bodyPost_ret (results_cell_slot rfl _ _ (w.heap.size + 2) 26 #[.string N,.bool on,.bool false,.slice q5 n5 k5,.int .u64 mm,.slice qk nk ck,.slice qc nc cc] (0,0) _ (.bool true) rfl (setRow_heap _ (w.heap.size + 2) _ _ _ _ HQ.out.ab.bz) Tryz.underlying26 rfl HC9.out rfl) rfl (by rw [HEd.out]; exact HQ.out.fin)
 · have e4 : decide ((64 : Int) < (n5 : Int)) = true := decide_eq_true (by omega)
   have HEd := Lib.hid (HOO.out.trans (if_neg (show ¬ (moreL d.hs T.data.toList).length ≤ 64 by rw [HLn.out]; exact h64)))
   go_wp2_with (with_reducible refine wpList_store_row rfl 26 (.tmp 8) (.tmp 150) rfl (w.heap.size + 2) #[.string N,.bool on,.bool np,.slice qh nh ch,.int .u64 mm,.slice qk nk ck,.slice qc nc cc] rfl rfl 26 _ HQ.out.ab.bz HCs.out rfl HOn.out ?_)
   exact bodyPost_ret (results_cell_slot rfl _ _ (w.heap.size + 2) 26 #[.string N,.bool on,.bool np,.slice qh nh ch,.int .u64 mm,.slice qk nk ck,.slice qc nc cc] (0,0) _ (.bool false) rfl (setRow_heap _ (w.heap.size + 2) _ _ _ _ HQ.out.ab.bz) Tryz.underlying26 rfl HCs.out rfl) rfl (by rw [HEd.out]; exact HQ.out.ab.fin)
end Go.Proofs.YtpoinibckmbfcaaGreatDoor.RefUser
