/-
  Packed by program.
-/
import Derived.Test.YtpoinibckmbfcaaGreatDoorPk41
import Derived.Test.YtpoinibckmbfcaaGreatDoorPk41
import Derived.Test.YtpoinibckmbfcaaGreatDoorPk41
namespace Go.Proofs.YtpoinibckmbfcaaGreatDoor.RefUser
open Go.RowKit Kit StrT RowG RuleT UserT UserR TableMath Low ValT
open Go.Sort (grow)
open RefRule (results_cell_slot)
set_option linter.unusedVariables false
set_option maxRecDepth 100000
set_option maxHeartbeats 4000000 in
theorem apply_10 (p : UP) (m : Nat) (T : ByteArray) (a b : Bool) (sq : Option Addr) (sn sc : Nat) (n : Int) (w : World) (hU : UIn w p) (hz : T.size ≤ 1048576) (hm : m < 18446744073709551616) (hf : fewB p.d = true) (hr : rightR ⟨10,T.data.toList,a,b,m⟩ = true) :
  ApG p 10 T a b (m : Int) sq sn sc n w (if (keysL p.d.ks T.data.toList a b).length ≤ 64 then some (setU p.d ⟨10,T.data.toList,a,b,m⟩ []) else none) := by
 obtain ⟨oo,hoo⟩ : ∃ oo,oo = (if (keysL p.d.ks T.data.toList a b).length ≤ 64 then some (setU p.d ⟨10,T.data.toList,a,b,m⟩ []) else none) := ⟨_,rfl⟩
 rw [← hoo]
 have HOO := Lib.hid hoo
 clear hoo
 have HA := Lib.hid (AB.new hU #[Value.int .u8 10,.string T,.bool a,.bool b,.int .u64 (m : Int)])
 have CR := Lib.hid (fun W => (show Calls Tryz.prog 25 #[.agg #[.int .u8 10,.string T,.bool a,.bool b,.int .u64 (m : Int)]] W (fun e w' => e = .returned (.bool true) ∧ Below W.heap.size W w') from by
  have h := right_any 10 m T a b W hz hm (by decide)
  unfold RightC at h
  rw [hr] at h
  exact h))
 obtain ⟨n1,n2,n3⟩ := few_nums hU hf
 have HEm := Lib.hid (And.intro hU.em hU.mb)
 have HRr := Lib.hid hr
 clear hr
 unfold ApG
 obtain ⟨N,on,np,qh,nh,ch,mm,qk,nk,ck,qc,nc,cc,d⟩ := p
 have HCs := Lib.hid (ucs_size ⟨N,on,np,qh,nh,ch,mm,qk,nk,ck,qc,nc,cc,d⟩)
 have HOn := Lib.hid (user_one N on np qh qk qc nh ch nk ck nc cc mm)
 simp only [ucs,ucs0] at HA HCs HOn n1 n2 n3 HEm
 have e1 : decide ((64 : Int) < (nh : Int)) = false := decide_eq_false (by omega)
 have e2 : decide ((64 : Int) < (nk : Int)) = false := decide_eq_false (by omega)
 have e3 : decide ((64 : Int) < (nc : Int)) = false := decide_eq_false (by omega)
 have HF := Lib.hid hf
 clear hU hf
 show Calls Tryz.prog 11 #[.agg #[.string N,.bool on,.bool np,.slice qh nh ch,.int .u64 mm,.slice qk nk ck,.slice qc nc cc],.agg #[.int .u8 10,.string T,.bool a,.bool b,.int .u64 (m : Int)],.slice sq sn sc,.int .i64 n] w _
 go_enter Tryz.func11,Tryz.ntmps11
 go_upto_region 1 with fail
 generalize ((w.alloc _).alloc _).alloc _ = w1 at HA ⊢
 obtain ⟨c0,c1,c2,c3,c4⟩ := box_cells HA.out.br
 go_wp2_with fail
 refine (CR.out _).mono ?_
 rintro e w2 ⟨rfl,hb2⟩
 have HA2 := Lib.hid (HA.out.keep hb2)
 clear hb2 HA CR c0 c1 c2 c3 c4
 obtain ⟨u0,u1,u2,u3,u4,u5,u6⟩ := u_cells HA2.out.bx
 have HO := Lib.hid (AO.new HA2.out)
 simp only [ucs] at HO
 go_upto_region 5 with fail
 generalize w2.heap.size = g at HO ⊢
 generalize w2.alloc _ = w3 at HO ⊢
 clear u0 u1 u2 u3 u4 u5 u6 HA2
 obtain ⟨c0,c1,c2,c3,c4⟩ := box_cells HO.out.ab.br
 obtain ⟨u0,u1,u2,u3,u4,u5,u6⟩ := u_cells HO.out.ab.bx
 obtain ⟨x0,x1,x2,x3,x4,x5,x6⟩ := u_cells HO.out.bo
 have fz := fun j => frozen_of_row _ _ j _ _ HO.out.bo
 have f0 := fz 0
 have f1 := fz 1
 have f2 := fz 2
 have f3 := fz 3
 have f4 := fz 4
 have f5 := fz 5
 have f6 := fz 6
 clear fz
 have CM := Lib.hid (fun W (hw : RowIn glE W qk nk ck d.ks) => keys_any qk d.ks nk ck 10 (m : Int) T a b T.data.toList W hw rfl (by omega))
 go_wp2_with fail
 refine (CM.out _ HO.out.io.k).mono ?_
 rintro e w4 ⟨q5,k5,rfl,hr5,hf5,hb5⟩
 have HG5 := Lib.hid (show ∀ x,q5 = some x → g < x.block from fun x hx => Nat.lt_of_lt_of_le HO.out.lt (hf5 x hx))
 have HR9 := Lib.hid hr5
 have HN9 := Lib.hid (HO.out.keep hb5)
 clear hb5 hf5 hr5 CM HO
 clear c0 c1 c2 c3 c4 u0 u1 u2 u3 u4 u5 u6 x0 x1 x2 x3 x4 x5 x6 f0 f1 f2 f3 f4 f5 f6
 obtain ⟨n5,hn5⟩ : ∃ x,x = (keysL d.ks T.data.toList a b).length := ⟨_,rfl⟩
 have HLn := Lib.hid hn5.symm
 rw [← hn5] at HR9 ⊢
 clear hn5
 obtain ⟨c0,c1,c2,c3,c4⟩ := box_cells HN9.out.ab.br
 obtain ⟨u0,u1,u2,u3,u4,u5,u6⟩ := u_cells HN9.out.ab.bx
 obtain ⟨x0,x1,x2,x3,x4,x5,x6⟩ := u_cells HN9.out.bo
 have fz := fun j => frozen_of_row _ _ j _ _ HN9.out.bo
 have f0 := fz 0
 have f1 := fz 1
 have f2 := fz 2
 have f3 := fz 3
 have f4 := fz 4
 have f5 := fz 5
 have f6 := fz 6
 clear fz
 have HP := Lib.hid (AO.put HN9.out ⟨N,on,np,qh,nh,ch,mm,q5,n5,k5,qc,nc,cc,{ d with ks := keysL d.ks T.data.toList a b }⟩ 5 (.slice q5 n5 k5) rfl { HN9.out.io with k := HR9.out } (fun k hk => by
  rcases hk with h | ⟨h0,x,hx,e⟩ | h
  · exact HN9.out.at_ k (Or.inl h)
  · exact Or.inr (by have := HG5.out x hx; omega)
  · exact HN9.out.at_ k (Or.inr (Or.inr h))))
 clear HN9
 go_upto_region 44 with fail
 generalize World.setCell _ _ _ = w5 at HP ⊢
 clear c0 c1 c2 c3 c4 u0 u1 u2 u3 u4 u5 u6 x0 x1 x2 x3 x4 x5 x6 f0 f1 f2 f3 f4 f5 f6
 obtain ⟨c0,c1,c2,c3,c4⟩ := box_cells HP.out.ab.br
 obtain ⟨u0,u1,u2,u3,u4,u5,u6⟩ := u_cells HP.out.ab.bx
 obtain ⟨x0,x1,x2,x3,x4,x5,x6⟩ := u_cells HP.out.bo
 have fz := fun j => frozen_of_row _ _ j _ _ HP.out.bo
 have f0 := fz 0
 have f1 := fz 1
 have f2 := fz 2
 have f3 := fz 3
 have f4 := fz 4
 have f5 := fz 5
 have f6 := fz 6
 clear fz
 by_cases h64 : n5 ≤ 64
 · have e4 : decide ((64 : Int) < (n5 : Int)) = false := decide_eq_false (by omega)
   have HEd := Lib.hid (HOO.out.trans (if_pos (show (keysL d.ks T.data.toList a b).length ≤ 64 by rw [HLn.out]; exact h64)))
   have HC9 := Lib.hid (ucs_size ⟨N,on,np,qh,nh,ch,mm,q5,n5,k5,qc,nc,cc,{ d with ks := keysL d.ks T.data.toList a b }⟩)
   have HO9 := Lib.hid (user_one (N) (on) (np) (qh) (q5) (qc) (nh) (ch) (n5) (k5) (nc) (cc) (mm))
   simp only [ucs] at HC9
   go_wp2_with (with_reducible refine wpList_store_row rfl 26 (.tmp 8) (.tmp 151) rfl (w.heap.size + 2) #[.string N,.bool on,.bool np,.slice qh nh ch,.int .u64 mm,.slice q5 n5 k5,.slice qc nc cc] rfl rfl 26 _ HP.out.ab.bz HC9.out rfl HO9.out ?_)
   exact bodyPost_ret (results_cell_slot rfl _ _ (w.heap.size + 2) 26 #[.string N,.bool on,.bool np,.slice qh nh ch,.int .u64 mm,.slice q5 n5 k5,.slice qc nc cc] (0,0) _ (.bool true) rfl (setRow_heap _ (w.heap.size + 2) _ _ _ _ HP.out.ab.bz) Tryz.underlying26 rfl HC9.out rfl) rfl (by rw [HEd.out]; exact HP.out.fin)
 · have e4 : decide ((64 : Int) < (n5 : Int)) = true := decide_eq_true (by omega)
   have HEd := Lib.hid (HOO.out.trans (if_neg (show ¬ (keysL d.ks T.data.toList a b).length ≤ 64 by rw [HLn.out]; exact h64)))
   go_wp2_with (with_reducible refine wpList_store_row rfl 26 (.tmp 8) (.tmp 150) rfl (w.heap.size + 2) #[.string N,.bool on,.bool np,.slice qh nh ch,.int .u64 mm,.slice qk nk ck,.slice qc nc cc] rfl rfl 26 _ HP.out.ab.bz HCs.out rfl HOn.out ?_)
   exact bodyPost_ret (results_cell_slot rfl _ _ (w.heap.size + 2) 26 #[.string N,.bool on,.bool np,.slice qh nh ch,.int .u64 mm,.slice qk nk ck,.slice qc nc cc] (0,0) _ (.bool false) rfl (setRow_heap _ (w.heap.size + 2) _ _ _ _ HP.out.ab.bz) Tryz.underlying26 rfl HCs.out rfl) rfl (by rw [HEd.out]; exact HP.out.ab.fin)
set_option maxHeartbeats 4000000 in
theorem apply_12 (p : UP) (m : Nat) (T : ByteArray) (a b : Bool) (sq : Option Addr) (sn sc : Nat) (n : Int) (w : World) (hU : UIn w p) (hz : T.size ≤ 1048576) (hm : m < 18446744073709551616) (hf : fewB p.d = true) (hr : rightR ⟨12,T.data.toList,a,b,m⟩ = true) :
  ApG p 12 T a b (m : Int) sq sn sc n w (if (moreL p.d.cs T.data.toList).length ≤ 64 then some (setU p.d ⟨12,T.data.toList,a,b,m⟩ []) else none) := by
 obtain ⟨oo,hoo⟩ : ∃ oo,oo = (if (moreL p.d.cs T.data.toList).length ≤ 64 then some (setU p.d ⟨12,T.data.toList,a,b,m⟩ []) else none) := ⟨_,rfl⟩
 rw [← hoo]
 have HOO := Lib.hid hoo
 clear hoo
 have HA := Lib.hid (AB.new hU #[Value.int .u8 12,.string T,.bool a,.bool b,.int .u64 (m : Int)])
 have CR := Lib.hid (fun W => (show Calls Tryz.prog 25 #[.agg #[.int .u8 12,.string T,.bool a,.bool b,.int .u64 (m : Int)]] W (fun e w' => e = .returned (.bool true) ∧ Below W.heap.size W w') from by
  have h := right_any 12 m T a b W hz hm (by decide)
  unfold RightC at h
  rw [hr] at h
  exact h))
 obtain ⟨n1,n2,n3⟩ := few_nums hU hf
 have HEm := Lib.hid (And.intro hU.em hU.mb)
 have HRr := Lib.hid hr
 clear hr
 unfold ApG
 obtain ⟨N,on,np,qh,nh,ch,mm,qk,nk,ck,qc,nc,cc,d⟩ := p
 have HCs := Lib.hid (ucs_size ⟨N,on,np,qh,nh,ch,mm,qk,nk,ck,qc,nc,cc,d⟩)
 have HOn := Lib.hid (user_one N on np qh qk qc nh ch nk ck nc cc mm)
 simp only [ucs,ucs0] at HA HCs HOn n1 n2 n3 HEm
 have e1 : decide ((64 : Int) < (nh : Int)) = false := decide_eq_false (by omega)
 have e2 : decide ((64 : Int) < (nk : Int)) = false := decide_eq_false (by omega)
 have e3 : decide ((64 : Int) < (nc : Int)) = false := decide_eq_false (by omega)
 have HF := Lib.hid hf
 clear hU hf
 show Calls Tryz.prog 11 #[.agg #[.string N,.bool on,.bool np,.slice qh nh ch,.int .u64 mm,.slice qk nk ck,.slice qc nc cc],.agg #[.int .u8 12,.string T,.bool a,.bool b,.int .u64 (m : Int)],.slice sq sn sc,.int .i64 n] w _
 go_enter Tryz.func11,Tryz.ntmps11
 go_upto_region 1 with fail
 generalize ((w.alloc _).alloc _).alloc _ = w1 at HA ⊢
 obtain ⟨c0,c1,c2,c3,c4⟩ := box_cells HA.out.br
 go_wp2_with fail
 refine (CR.out _).mono ?_
 rintro e w2 ⟨rfl,hb2⟩
 have HA2 := Lib.hid (HA.out.keep hb2)
 clear hb2 HA CR c0 c1 c2 c3 c4
 obtain ⟨u0,u1,u2,u3,u4,u5,u6⟩ := u_cells HA2.out.bx
 have HO := Lib.hid (AO.new HA2.out)
 simp only [ucs] at HO
 go_upto_region 5 with fail
 generalize w2.heap.size = g at HO ⊢
 generalize w2.alloc _ = w3 at HO ⊢
 clear u0 u1 u2 u3 u4 u5 u6 HA2
 obtain ⟨c0,c1,c2,c3,c4⟩ := box_cells HO.out.ab.br
 obtain ⟨u0,u1,u2,u3,u4,u5,u6⟩ := u_cells HO.out.ab.bx
 obtain ⟨x0,x1,x2,x3,x4,x5,x6⟩ := u_cells HO.out.bo
 have fz := fun j => frozen_of_row _ _ j _ _ HO.out.bo
 have f0 := fz 0
 have f1 := fz 1
 have f2 := fz 2
 have f3 := fz 3
 have f4 := fz 4
 have f5 := fz 5
 have f6 := fz 6
 clear fz
 have CM := Lib.hid (fun W (hw : RowIn strE W qc nc cc d.cs) => more_any qc d.cs nc cc T T.data.toList W hw rfl (by omega))
 go_wp2_with fail
 refine (CM.out _ HO.out.io.c).mono ?_
 rintro e w4 ⟨q5,k5,rfl,hr5,hf5,hb5⟩
 have HG5 := Lib.hid (show ∀ x,q5 = some x → g < x.block from fun x hx => Nat.lt_of_lt_of_le HO.out.lt (hf5 x hx))
 have HR9 := Lib.hid hr5
 have HN9 := Lib.hid (HO.out.keep hb5)
 clear hb5 hf5 hr5 CM HO
 clear c0 c1 c2 c3 c4 u0 u1 u2 u3 u4 u5 u6 x0 x1 x2 x3 x4 x5 x6 f0 f1 f2 f3 f4 f5 f6
 obtain ⟨n5,hn5⟩ : ∃ x,x = (moreL d.cs T.data.toList).length := ⟨_,rfl⟩
 have HLn := Lib.hid hn5.symm
 rw [← hn5] at HR9 ⊢
 clear hn5
 obtain ⟨c0,c1,c2,c3,c4⟩ := box_cells HN9.out.ab.br
 obtain ⟨u0,u1,u2,u3,u4,u5,u6⟩ := u_cells HN9.out.ab.bx
 obtain ⟨x0,x1,x2,x3,x4,x5,x6⟩ := u_cells HN9.out.bo
 have fz := fun j => frozen_of_row _ _ j _ _ HN9.out.bo
 have f0 := fz 0
 have f1 := fz 1
 have f2 := fz 2
 have f3 := fz 3
 have f4 := fz 4
 have f5 := fz 5
 have f6 := fz 6
 clear fz
 have HP := Lib.hid (AO.put HN9.out ⟨N,on,np,qh,nh,ch,mm,qk,nk,ck,q5,n5,k5,{ d with cs := moreL d.cs T.data.toList }⟩ 6 (.slice q5 n5 k5) rfl { HN9.out.io with c := HR9.out } (fun k hk => by
  rcases hk with h | h | ⟨h0,x,hx,e⟩
  · exact HN9.out.at_ k (Or.inl h)
  · exact HN9.out.at_ k (Or.inr (Or.inl h))
  · exact Or.inr (by have := HG5.out x hx; omega)))
 clear HN9
 go_upto_region 44 with fail
 generalize World.setCell _ _ _ = w5 at HP ⊢
 clear c0 c1 c2 c3 c4 u0 u1 u2 u3 u4 u5 u6 x0 x1 x2 x3 x4 x5 x6 f0 f1 f2 f3 f4 f5 f6
 obtain ⟨c0,c1,c2,c3,c4⟩ := box_cells HP.out.ab.br
 obtain ⟨u0,u1,u2,u3,u4,u5,u6⟩ := u_cells HP.out.ab.bx
 obtain ⟨x0,x1,x2,x3,x4,x5,x6⟩ := u_cells HP.out.bo
 have fz := fun j => frozen_of_row _ _ j _ _ HP.out.bo
 have f0 := fz 0
 have f1 := fz 1
 have f2 := fz 2
 have f3 := fz 3
 have f4 := fz 4
 have f5 := fz 5
 have f6 := fz 6
 clear fz
 by_cases h64 : n5 ≤ 64
 · have e4 : decide ((64 : Int) < (n5 : Int)) = false := decide_eq_false (by omega)
   have HEd := Lib.hid (HOO.out.trans (if_pos (show (moreL d.cs T.data.toList).length ≤ 64 by rw [HLn.out]; exact h64)))
   have HC9 := Lib.hid (ucs_size ⟨N,on,np,qh,nh,ch,mm,qk,nk,ck,q5,n5,k5,{ d with cs := moreL d.cs T.data.toList }⟩)
   have HO9 := Lib.hid (user_one (N) (on) (np) (qh) (qk) (q5) (nh) (ch) (nk) (ck) (n5) (k5) (mm))
   simp only [ucs] at HC9
   go_wp2_with (with_reducible refine wpList_store_row rfl 26 (.tmp 8) (.tmp 151) rfl (w.heap.size + 2) #[.string N,.bool on,.bool np,.slice qh nh ch,.int .u64 mm,.slice qk nk ck,.slice q5 n5 k5] rfl rfl 26 _ HP.out.ab.bz HC9.out rfl HO9.out ?_)
   exact bodyPost_ret (results_cell_slot rfl _ _ (w.heap.size + 2) 26 #[.string N,.bool on,.bool np,.slice qh nh ch,.int .u64 mm,.slice qk nk ck,.slice q5 n5 k5] (0,0) _ (.bool true) rfl (setRow_heap _ (w.heap.size + 2) _ _ _ _ HP.out.ab.bz) Tryz.underlying26 rfl HC9.out rfl) rfl (by rw [HEd.out]; exact HP.out.fin)
 · have e4 : decide ((64 : Int) < (n5 : Int)) = true := decide_eq_true (by omega)
   have HEd := Lib.hid (HOO.out.trans (if_neg (show ¬ (moreL d.cs T.data.toList).length ≤ 64 by rw [HLn.out]; exact h64)))
   go_wp2_with (with_reducible refine wpList_store_row rfl 26 (.tmp 8) (.tmp 150) rfl (w.heap.size + 2) #[.string N,.bool on,.bool np,.slice qh nh ch,.int .u64 mm,.slice qk nk ck,.slice qc nc cc] rfl rfl 26 _ HP.out.ab.bz HCs.out rfl HOn.out ?_)
   exact bodyPost_ret (results_cell_slot rfl _ _ (w.heap.size + 2) 26 #[.string N,.bool on,.bool np,.slice qh nh ch,.int .u64 mm,.slice qk nk ck,.slice qc nc cc] (0,0) _ (.bool false) rfl (setRow_heap _ (w.heap.size + 2) _ _ _ _ HP.out.ab.bz) Tryz.underlying26 rfl HCs.out rfl) rfl (by rw [HEd.out]; exact HP.out.ab.fin)
end Go.Proofs.YtpoinibckmbfcaaGreatDoor.RefUser
namespace Go.Proofs.YtpoinibckmbfcaaGreatDoor.RefUser
open Go.RowKit Kit StrT RowG RuleT UserT UserR TableMath Low ValT
open Go.Sort (grow)
open RefRule (results_cell_slot)
set_option linter.unusedVariables false
set_option maxRecDepth 100000
theorem cut_lo (W : World) (b : Nat) (h : b ≤ W.heap.size) : ∃ w0 : World,w0.heap.size = b ∧ Below b w0 W :=
 ⟨{ W with heap := W.heap.extract 0 b },by simp; omega,⟨rfl,rfl,rfl,by simp; omega,fun k hk => by
  show W.heap[k]? = (W.heap.extract 0 b)[k]?
  rw [Array.getElem?_extract,if_pos (by omega),Nat.zero_add]⟩⟩
theorem RowIn.same2 {α : Type} {E : Enc α} {w w' : World} {q : Option Addr} {n c : Nat} {L : List α} (h : RowIn E w q n c L) (hk : ∀ a,0 < n → q = some a → w'.heap[a.block]? = w.heap[a.block]?) : RowIn E w' q n c L := by
 refine ⟨fun h0 => ?_,h.l,h.f,h.b,h.m,h.e⟩
 obtain ⟨b,off,e,hlt,hc⟩ := h.r h0
 have hb := hk _ (by rw [← h.l]; exact h0) e
 have hlt2 : b < w'.heap.size := by
  rcases Nat.lt_or_ge b w'.heap.size with h' | h'
  · exact h'
  · have h1 : w'.heap[b]? = w.heap[b]? := hb
    rw [Array.getElem?_eq_none h',Array.getElem?_eq_getElem hlt] at h1
    cases h1
 refine ⟨b,off,e,hlt2,fun j hj => ?_⟩
 rw [← hc j hj]
 simp only [World.cell?]
 rw [hb]
theorem UIn.same2 {w w' : World} {p : UP} (h : UIn w p) (hk : ∀ k,p.at_ k → w'.heap[k]? = w.heap[k]?) : UIn w' p :=
 { h with h := RowIn.same2 h.h (fun a h0 e => hk _ (Or.inl ⟨h0,a,e,rfl⟩)),k := RowIn.same2 h.k (fun a h0 e => hk _ (Or.inr (Or.inl ⟨h0,a,e,rfl⟩))),c := RowIn.same2 h.c (fun a h0 e => hk _ (Or.inr (Or.inr ⟨h0,a,e,rfl⟩))) }
theorem AB.low {w wq w5 w0 : World} {p : UP} {r : Array Value} {g : Nat} (h : AB w p r wq) (hg : w.heap.size + 2 < g) (h0 : w0.heap.size = g + 1) (hq : Below (g + 1) w0 wq) (h5 : Below (g + 1) w0 w5) : AB w p r w5 := by
 have he : ∀ k,k < g + 1 → w5.heap[k]? = wq.heap[k]? := fun k hk => (h5.block k hk).trans (hq.block k hk).symm
 exact ⟨⟨h5.os.trans (hq.os.symm.trans h.bel.os),h5.tape.trans (hq.tape.symm.trans h.bel.tape),h5.output.trans (hq.output.symm.trans h.bel.output),(by have := h5.size; omega),fun k hk => (he k (by omega)).trans (h.bel.block k hk)⟩,by rw [he _ (by omega)]; exact h.bx,by rw [he _ (by omega)]; exact h.br,by rw [he _ (by omega)]; exact h.bz,UIn.same2 h.ip (fun k hk => he k (by have := h.lp k hk; omega)),h.lp⟩
theorem AB.put {w wr : World} {p o : UP} {r : Array Value} {g : Nat} (h : AB w p r wr) (hg : w.heap.size + 2 < g) (hb : wr.heap[g]? = some (.cells (ucs o) 26 (0,0))) (o' : UP) (j : Nat) (v : Value) (hc : ucs o' = (ucs o).setIfInBounds j v) (hi : UIn wr o') (hat : ∀ k,o'.at_ k → p.at_ k ∨ g < k) : AO w p r g o' (wr.setCell ⟨g,j,none⟩ v) := by
 have ho : ∀ k,k ≠ g → (wr.setCell ⟨g,j,none⟩ v).heap[k]? = wr.heap[k]? := fun k hk => heap_setCell_other _ _ _ _ hk
 refine ⟨⟨h.bel.setCell (p := ⟨g,j,none⟩) (by show _ ≤ g; omega) v,by rw [ho _ (by omega)]; exact h.bx,by rw [ho _ (by omega)]; exact h.br,by rw [ho _ (by omega)]; exact h.bz,h.ip.same (by simp) (fun k hk => ho k (by have := h.lp k hk; omega)),h.lp⟩,hg,?_,hi.same (by simp) (fun k hk => ho k (by
  rcases hat k hk with h1 | h1
  · have := h.lp k h1
    omega
  · omega)),hat⟩
 rw [hc]
 exact heap_setCell_same _ _ j _ _ v hb
theorem filt_stay {L : List (List UInt8)} {j : Nat} {t : List UInt8} (hj : j < L.length) (h : L[j] = t) : (L.take (j + 1)).filter (fun x => decide (x ≠ t)) = (L.take j).filter (fun x => decide (x ≠ t)) := by
 rw [List.take_succ_eq_append_getElem hj,List.filter_append]
 simp [h]
theorem filt_more {L : List (List UInt8)} {j : Nat} {t : List UInt8} (hj : j < L.length) (h : L[j] ≠ t) : (L.take (j + 1)).filter (fun x => decide (x ≠ t)) = (L.take j).filter (fun x => decide (x ≠ t)) ++ [L[j]] := by
 rw [List.take_succ_eq_append_getElem hj,List.filter_append]
 simp [h]
theorem filt_len {L : List (List UInt8)} {j : Nat} {t : List UInt8} : ((L.take j).filter (fun x => decide (x ≠ t))).length ≤ L.length :=
 Nat.le_trans (List.length_filter_le _ _) (by rw [List.length_take]; omega)
theorem own_len {E : Enc (List UInt8)} {base : Nat} {w : World} {q : Option Addr} {n c : Nat} {L : List (List UInt8)} (h : OwnR E base w (.slice q n c) L) : n = L.length := by
 rcases h.2 with ⟨e,h0⟩ | ⟨g,cap,cur,e,-⟩
 · injection e with e1 e2 e3
   omega
 · injection e with e1 e2 e3
set_option maxHeartbeats 4000000 in
theorem apply_7 (p : UP) (m : Nat) (T : ByteArray) (a b : Bool) (sq : Option Addr) (sn sc : Nat) (n : Int) (w : World) (hU : UIn w p) (hz : T.size ≤ 1048576) (hm : m < 18446744073709551616) (hf : fewB p.d = true) (hr : rightR ⟨7,T.data.toList,a,b,m⟩ = true) :
  ApG p 7 T a b (m : Int) sq sn sc n w (some (setU p.d ⟨7,T.data.toList,a,b,m⟩ [])) := by
 have HA := Lib.hid (AB.new hU #[Value.int .u8 7,.string T,.bool a,.bool b,.int .u64 (m : Int)])
 have CR := Lib.hid (fun W => (show Calls Tryz.prog 25 #[.agg #[.int .u8 7,.string T,.bool a,.bool b,.int .u64 (m : Int)]] W (fun e w' => e = .returned (.bool true) ∧ Below W.heap.size W w') from by
  have h := right_any 7 m T a b W hz hm (by decide)
  unfold RightC at h
  rw [hr] at h
  exact h))
 obtain ⟨n1,n2,n3⟩ := few_nums hU hf
 have HEm := Lib.hid (And.intro hU.em hU.mb)
 have HRr := Lib.hid hr
 clear hr
 unfold ApG
 obtain ⟨N,on,np,qh,nh,ch,mm,qk,nk,ck,qc,nc,cc,d⟩ := p
 have HCs := Lib.hid (ucs_size ⟨N,on,np,qh,nh,ch,mm,qk,nk,ck,qc,nc,cc,d⟩)
 have HOn := Lib.hid (user_one N on np qh qk qc nh ch nk ck nc cc mm)
 simp only [ucs,ucs0] at HA HCs HOn n1 n2 n3 HEm
 have e1 : decide ((64 : Int) < (nh : Int)) = false := decide_eq_false (by omega)
 have e2 : decide ((64 : Int) < (nk : Int)) = false := decide_eq_false (by omega)
 have e3 : decide ((64 : Int) < (nc : Int)) = false := decide_eq_false (by omega)
 have HF := Lib.hid hf
 clear hU hf
 show Calls Tryz.prog 11 #[.agg #[.string N,.bool on,.bool np,.slice qh nh ch,.int .u64 mm,.slice qk nk ck,.slice qc nc cc],.agg #[.int .u8 7,.string T,.bool a,.bool b,.int .u64 (m : Int)],.slice sq sn sc,.int .i64 n] w _
 go_enter Tryz.func11,Tryz.ntmps11
 go_upto_region 1 with fail
 generalize ((w.alloc _).alloc _).alloc _ = w1 at HA ⊢
 obtain ⟨c0,c1,c2,c3,c4⟩ := box_cells HA.out.br
 go_wp2_with fail
 refine (CR.out _).mono ?_
 rintro e w2 ⟨rfl,hb2⟩
 have HA2 := Lib.hid (HA.out.keep hb2)
 clear hb2 HA CR c0 c1 c2 c3 c4
 obtain ⟨u0,u1,u2,u3,u4,u5,u6⟩ := u_cells HA2.out.bx
 have HO := Lib.hid (AO.new HA2.out)
 simp only [ucs] at HO
 go_upto_region 5 with fail
 generalize w2.heap.size = g at HO ⊢
 generalize w2.alloc _ = w3 at HO ⊢
 clear u0 u1 u2 u3 u4 u5 u6 HA2
 obtain ⟨c0,c1,c2,c3,c4⟩ := box_cells HO.out.ab.br
 obtain ⟨u0,u1,u2,u3,u4,u5,u6⟩ := u_cells HO.out.ab.bx
 obtain ⟨x0,x1,x2,x3,x4,x5,x6⟩ := u_cells HO.out.bo
 have fz := fun j => frozen_of_row _ _ j _ _ HO.out.bo
 have f0 := fz 0
 have f1 := fz 1
 have f2 := fz 2
 have f3 := fz 3
 have f4 := fz 4
 have f5 := fz 5
 have f6 := fz 6
 clear fz
 have hgl := HO.out.lt
 have HOw := Lib.hid (show OwnR strE (g + 1) ((w3.setCell ⟨g,3,none⟩ (.slice (some ⟨w3.heap.size,0,none⟩) 0 0)).alloc (.cells #[] 9)) (.slice (some ⟨w3.heap.size,0,none⟩) 0 0) [] from ownR_new strE (g + 1) (w3.setCell ⟨g,3,none⟩ (.slice (some ⟨w3.heap.size,0,none⟩) 0 0)) w3.heap.size (by simp) (by simp; omega))
 have HP := Lib.hid ((AO.put HO.out ⟨N,on,np,(some ⟨w3.heap.size,0,none⟩),0,0,mm,qk,nk,ck,qc,nc,cc,{ d with hs := [] }⟩ 3 (.slice (some ⟨w3.heap.size,0,none⟩) 0 0) rfl { HO.out.io with h := ⟨Rs.nil _ _ _,rfl,Nat.zero_le _,Nat.le_refl _,Nat.zero_le _,fun _ => rfl⟩ } (fun k hk => by
  rcases hk with ⟨h0,_⟩ | h | h
  · exact absurd h0 (Nat.lt_irrefl 0)
  · exact HO.out.at_ k (Or.inr (Or.inl h))
  · exact HO.out.at_ k (Or.inr (Or.inr h)))).keep (Kit.below1 _ (.cells #[] 9)))
 clear HO
 go_upto_region 25 with fail
 generalize some (Addr.mk w3.heap.size 0 none) = q0 at HP HOw ⊢
 generalize (World.setCell _ _ _).alloc _ = w4 at HP HOw ⊢
 clear hgl
 clear c0 c1 c2 c3 c4 u0 u1 u2 u3 u4 u5 u6 x0 x1 x2 x3 x4 x5 x6 f0 f1 f2 f3 f4 f5 f6
 have HHl := Lib.hid HP.out.ab.ip.h.l
 go_wp2_with fail
 go_loopw [14] (fun i wr => ∃ (j : Nat) (q5 : Option Addr) (n5 c5 : Nat),j ≤ nh ∧ i = .int .i64 j ∧ Hid (AO w ⟨N,on,np,qh,nh,ch,mm,qk,nk,ck,qc,nc,cc,d⟩ #[Value.int .u8 7,.string T,.bool a,.bool b,.int .u64 (m : Int)] g ⟨N,on,np,q5,n5,c5,mm,qk,nk,ck,qc,nc,cc,{ d with hs := (d.hs.take j).filter (fun x => decide (x ≠ T.data.toList)) }⟩ wr) ∧ Hid (OwnR strE (g + 1) wr (.slice q5 n5 c5) ((d.hs.take j).filter (fun x => decide (x ≠ T.data.toList))))) (fun i _ => nh - (intOf i).toNat)
 case atStart => exact ⟨0,_,_,_,Nat.zero_le _,rfl,HP,HOw⟩
 case round =>
  clear HP HOw
  obtain ⟨j,q5,n5,c5,hj,rfl,HK,HW⟩ := hrel
  obtain ⟨c0,c1,c2,c3,c4⟩ := box_cells HK.out.ab.br
  obtain ⟨u0,u1,u2,u3,u4,u5,u6⟩ := u_cells HK.out.ab.bx
  obtain ⟨x0,x1,x2,x3,x4,x5,x6⟩ := u_cells HK.out.bo
  have fz := fun j => frozen_of_row _ _ j _ _ HK.out.bo
  have f0 := fz 0
  have f1 := fz 1
  have f2 := fz 2
  have f3 := fz 3
  have f4 := fz 4
  have f5 := fz 5
  have f6 := fz 6
  clear fz
  by_cases hlt : j < nh
  · have d1 : decide ((j : Int) < (nh : Int)) = true := decide_eq_true (by omega)
    have hjl : j < d.hs.length := by rw [HHl.out]; exact hlt
    have j0 : (0 : Int) ≤ (j : Int) := by omega
    have j1 : (j : Int) < (nh : Int) := by omega
    obtain ⟨bq,off,rfl,hbl,hc⟩ := (rs_ss.1 HK.out.ab.ip.h.r) (Nat.lt_of_le_of_lt (Nat.zero_le _) hjl)
    have v0 := hc j hjl
    have HSt := Lib.hid (fun h => filt_stay (t := T.data.toList) hjl h)
    have HMo := Lib.hid (fun h => filt_more (t := T.data.toList) hjl h)
    obtain ⟨x,hx⟩ : ∃ x,x = d.hs[j] := ⟨_,rfl⟩
    rw [← hx] at v0 HSt HMo
    obtain ⟨X,hX⟩ : ∃ X : ByteArray,X = ⟨x.toArray⟩ := ⟨_,rfl⟩
    rw [← hX] at v0
    have hE : (X.toList != T.toList) = decide (x ≠ T.data.toList) := by rw [ByteArray.toList_eq,ByteArray.toList_eq,hX,Bool.eq_iff_iff,bne_iff_ne,decide_eq_true_eq]
    have hE2 : (X.toList == T.toList) = decide (x = T.data.toList) := by rw [ByteArray.toList_eq,ByteArray.toList_eq,hX,Bool.eq_iff_iff,beq_iff_eq,decide_eq_true_eq]
    have HC := Lib.hid (fun (W : World) => rec_new strE W W.heap.size x #[.string X] (by rw [hX]; rfl) rfl)
    clear hX hx hc
    by_cases hxt : x = T.data.toList
    · rw [decide_eq_true hxt] at hE2
      rw [decide_eq_false (fun h => h hxt)] at hE
      have HFs := Lib.hid (HSt.out hxt)
      clear hxt HSt HMo
      go_wp2_with fail
      go_quiet (fail)
      have hbq : Below wr.heap.size wr (wr.drewN nq) := ⟨rfl,rfl,rfl,Nat.le_refl _,fun _ _ => rfl⟩
      have HKq := Lib.hid (HK.out.keep hbq)
      have HWq := Lib.hid (HW.out.keep hbq)
      rw [← HFs.out] at HKq HWq
      clear HK HW hbq v0
      clear c0 c1 c2 c3 c4 u0 u1 u2 u3 u4 u5 u6 x0 x1 x2 x3 x4 x5 x6 f0 f1 f2 f3 f4 f5 f6
      generalize wr.drewN nq = wq at HKq HWq ⊢
      go_wp2_with fail
      go_roundw
      case rel => exact ⟨j + 1,_,_,_,by omega,by go_num,HKq,HWq⟩
      case measure => simp [intOf]; omega
    · rw [decide_eq_false hxt] at hE2
      rw [decide_eq_true hxt] at hE
      have HFs := Lib.hid (HMo.out hxt)
      clear hxt HSt HMo
      go_wp2_with fail
      go_quiet (fail)
      have hbq : Below wr.heap.size wr (wr.drewN nq) := ⟨rfl,rfl,rfl,Nat.le_refl _,fun _ _ => rfl⟩
      have HKq := Lib.hid (HK.out.keep hbq)
      have HWq := Lib.hid (HW.out.keep hbq)
      have v1 : (wr.drewN nq).cell? ⟨bq,off + j,none⟩ = some (.string X) := v0
      clear HK HW hbq v0
      clear c0 c1 c2 c3 c4 u0 u1 u2 u3 u4 u5 u6 x0 x1 x2 x3 x4 x5 x6 f0 f1 f2 f3 f4 f5 f6
      generalize wr.drewN nq = wq at HKq HWq v1 ⊢
      obtain ⟨c0,c1,c2,c3,c4⟩ := box_cells HKq.out.ab.br
      obtain ⟨u0,u1,u2,u3,u4,u5,u6⟩ := u_cells HKq.out.ab.bx
      obtain ⟨x0,x1,x2,x3,x4,x5,x6⟩ := u_cells HKq.out.bo
      have fz := fun j => frozen_of_row _ _ j _ _ HKq.out.bo
      have f0 := fz 0
      have f1 := fz 1
      have f2 := fz 2
      have f3 := fz 3
      have f4 := fz 4
      have f5 := fz 5
      have f6 := fz 6
      clear fz
      have hlg := HKq.out.lt
      obtain ⟨w0,hs0,hb0⟩ := cut_lo wq (g + 1) (by omega)
      have HO1 := Lib.hid (show OwnR strE w0.heap.size (wq.alloc (.cells #[.string X] strE.ty)) (.slice q5 n5 c5) _ from by rw [hs0]; exact HWq.out.keep (Kit.below1 wq (.cells #[.string X] strE.ty)))
      have HBa := Lib.hid (show Below w0.heap.size w0 (wq.alloc (.cells #[.string X] strE.ty)) from by rw [hs0]; exact hb0.alloc (by omega) _)
      have HCa := Lib.hid (HC.out wq)
      have x3a : (wq.alloc (.cells #[.string X] 9)).cell? ⟨g,3,none⟩ = some (.slice q5 n5 c5) := ((Kit.below1 wq _).cell (p := ⟨g,3,none⟩) hlg).trans x3
      have u3a : (wq.alloc (.cells #[.string X] 9)).cell? ⟨w.heap.size,3,none⟩ = some (.slice (some ⟨bq,off,none⟩) nh ch) := ((Kit.below1 wq _).cell (p := ⟨w.heap.size,3,none⟩) (by show w.heap.size < _; have := HKq.out.gt; omega)).trans u3
      have v1a : (wq.alloc (.cells #[.string X] 9)).cell? ⟨bq,off + j,none⟩ = some (.string X) := ((Kit.below1 wq _).cell (p := ⟨bq,off + j,none⟩) (Go.block_lt_of_cell v1)).trans v1
      have hol : ((d.hs.take j).filter (fun x => decide (x ≠ T.data.toList))).length ≤ 1048576 := Nat.le_trans filt_len (by rw [HHl.out]; omega)
      have HBe := Lib.hid (And.intro hs0 hb0)
      have HSz := Lib.hid hol
      have HSy := Lib.hid (show ((d.hs.take j).filter (fun x => decide (x ≠ T.data.toList)) ++ [x]).length ≤ 1048576 by rw [List.length_append,List.length_singleton]; have h1 : ((d.hs.take j).filter (fun x => decide (x ≠ T.data.toList))).length ≤ d.hs.length := filt_len; rw [HHl.out] at h1; omega)
      clear hol
      clear hs0 hb0 hlg
      go_wp2_with fail
      go_region_law (refine step_append_r strE (w0 := w0) rfl (.tmp 83) (.tmp 89) rfl _ _ rfl (by first | exact HO1.out | exact OwnR.drew HO1.out) (by first | exact HBa.out | exact HBa.out.drew) wq.heap.size x 1 rfl (by exact HCa.out) HSz.out ?_; intro v' w5 hown1 hb5
                     obtain ⟨q6,c6,hv6,hr6,hf6⟩ := row_ans hown1 HSy.out
                     obtain ⟨n6,hn6⟩ : ∃ n6,n6 = ((d.hs.take j).filter (fun x => decide (x ≠ T.data.toList)) ++ [x]).length := ⟨_,rfl⟩
                     rw [← hn6] at hv6 hr6
                     subst hv6
                     have HW5 := Lib.hid hown1
                     have HR6 := Lib.hid hr6
                     have HF6 := Lib.hid hf6
                     have HB5 := Lib.hid hb5
                     have g3 : w5.frozen? ⟨g,3,none⟩ = false := frozen_of_row _ _ _ _ _ ((hb5.block g (by rw [HBe.out.1]; omega)).trans ((HBe.out.2.block g (by omega)).symm.trans HKq.out.bo))
                     have y3 : w5.cell? ⟨g,3,none⟩ = some (.slice q5 n5 c5) := (cell_of_row _ _ _ _ _ _ ((hb5.block g (by rw [HBe.out.1]; omega)).trans ((HBe.out.2.block g (by omega)).symm.trans HKq.out.bo))).trans rfl
                     clear hown1 hb5 hr6 hf6 hn6)
      all_goals
       have hB6 : Below (g + 1) w0 w5 := by have h := HB5.out; rw [HBe.out.1] at h; exact h
       have hab := AB.low HKq.out.ab HKq.out.gt HBe.out.1 HBe.out.2 hB6
       have hbo : w5.heap[g]? = some (.cells (ucs ⟨N,on,np,q5,n5,c5,mm,qk,nk,ck,qc,nc,cc,{ d with hs := (d.hs.take j).filter (fun x => decide (x ≠ T.data.toList)) }⟩) 26 (0,0)) := ((hB6.block g (by omega)).trans ((HBe.out.2.block g (by omega)).symm.trans HKq.out.bo))
       have hr6 := HR6.out
       rw [← HFs.out] at hr6
       have HK6 := Lib.hid (AB.put hab HKq.out.gt hbo ⟨N,on,np,q6,n6,c6,mm,qk,nk,ck,qc,nc,cc,{ d with hs := (d.hs.take (j + 1)).filter (fun x => decide (x ≠ T.data.toList)) }⟩ 3 (.slice q6 n6 c6) rfl { hab.ip with h := hr6 } (fun k hk => by
        rcases hk with ⟨h0,y,hy,e⟩ | h | h
        · exact Or.inr (by have := HF6.out y hy; have := HBe.out.1; omega)
        · exact Or.inl (Or.inr (Or.inl h))
        · exact Or.inl (Or.inr (Or.inr h))))
       have how := ownsRow_setCell_below HW5.out (a := ⟨g,3,none⟩) (by show g < _; rw [HBe.out.1]; omega) (.slice q6 n6 c6)
       rw [HBe.out.1] at how
       have HW6 := Lib.hid (show OwnR strE (g + 1) (w5.setCell ⟨g,3,none⟩ (.slice q6 n6 c6)) (.slice q6 n6 c6) _ from how)
       rw [← HFs.out] at HW6
       clear hB6 hab hbo hr6 how g3 y3
       generalize World.setCell _ _ _ = w6 at HK6 HW6 ⊢
       clear c0 c1 c2 c3 c4 u0 u1 u2 u3 u4 u5 u6 x0 x1 x2 x3 x4 x5 x6 f0 f1 f2 f3 f4 f5 f6 x3a u3a v1a v1
       go_wp2_with fail
       go_roundw
       case rel => exact ⟨j + 1,_,_,_,by omega,by go_num,HK6,HW6⟩
       case measure => simp [intOf]; omega
  · have d1 : decide ((j : Int) < (nh : Int)) = false := decide_eq_false (by omega)
    have HFl := Lib.hid (show d.hs.take j = d.hs from List.take_of_length_le (by rw [HHl.out]; omega))
    rw [HFl.out] at HK HW
    have hn5 : n5 ≤ 64 := by
     rw [own_len HW.out]
     exact Nat.le_trans (List.length_filter_le _ _) (by rw [HHl.out]; exact n1)
    have e4 : decide ((64 : Int) < (n5 : Int)) = false := decide_eq_false (by omega)
    have HC9 := Lib.hid (ucs_size ⟨N,on,np,q5,n5,c5,mm,qk,nk,ck,qc,nc,cc,{ d with hs := d.hs.filter (fun x => decide (x ≠ T.data.toList)) }⟩)
    have HO9 := Lib.hid (user_one (N) (on) (np) (q5) (qk) (qc) (n5) (c5) (nk) (ck) (nc) (cc) (mm))
    simp only [ucs] at HC9
    go_wp2_with (with_reducible refine wpList_store_row rfl 26 (.tmp 8) (.tmp 151) rfl (w.heap.size + 2) #[.string N,.bool on,.bool np,.slice q5 n5 c5,.int .u64 mm,.slice qk nk ck,.slice qc nc cc] rfl rfl 26 _ HK.out.ab.bz HC9.out rfl HO9.out ?_)
    exact bodyPost_ret (results_cell_slot rfl _ _ (w.heap.size + 2) 26 #[.string N,.bool on,.bool np,.slice q5 n5 c5,.int .u64 mm,.slice qk nk ck,.slice qc nc cc] (0,0) _ (.bool true) rfl (setRow_heap _ (w.heap.size + 2) _ _ _ _ HK.out.ab.bz) Tryz.underlying26 rfl HC9.out rfl) rfl HK.out.fin
end Go.Proofs.YtpoinibckmbfcaaGreatDoor.RefUser
namespace Go.Proofs.YtpoinibckmbfcaaGreatDoor.RefUser
open Go.RowKit Kit StrT RowG RuleT UserT UserR TableMath Low ValT
open Go.Sort (grow)
open RefRule (results_cell_slot)
set_option linter.unusedVariables false
set_option maxRecDepth 100000
set_option maxHeartbeats 4000000 in
theorem apply_5n (p : UP) (m : Nat) (T : ByteArray) (a b : Bool) (sq : Option Addr) (sn sc : Nat) (n : Int) (w : World) (hU : UIn w p) (hz : T.size ≤ 1048576) (hm : m < 18446744073709551616) (hf : fewB p.d = true) (hr : rightR ⟨5,T.data.toList,a,b,m⟩ = true) (hC : ∀ W,Below w.heap.size w W → Calls Tryz.prog 26 #[.string T,.slice sq sn sc,.int .i64 n] W fun e w' => e = .returned (.tuple #[.string ⟨#[]⟩,.bool false]) ∧ Below W.heap.size W w') :
  ApG p 5 T a b (m : Int) sq sn sc n w (none) := by
 have HC5 := Lib.hid hC
 clear hC
 have HA := Lib.hid (AB.new hU #[Value.int .u8 5,.string T,.bool a,.bool b,.int .u64 (m : Int)])
 have CR := Lib.hid (fun W => (show Calls Tryz.prog 25 #[.agg #[.int .u8 5,.string T,.bool a,.bool b,.int .u64 (m : Int)]] W (fun e w' => e = .returned (.bool true) ∧ Below W.heap.size W w') from by
  have h := right_any 5 m T a b W hz hm (by decide)
  unfold RightC at h
  rw [hr] at h
  exact h))
 obtain ⟨n1,n2,n3⟩ := few_nums hU hf
 have HEm := Lib.hid (And.intro hU.em hU.mb)
 have HRr := Lib.hid hr
 clear hr
 unfold ApG
 obtain ⟨N,on,np,qh,nh,ch,mm,qk,nk,ck,qc,nc,cc,d⟩ := p
 have HCs := Lib.hid (ucs_size ⟨N,on,np,qh,nh,ch,mm,qk,nk,ck,qc,nc,cc,d⟩)
 have HOn := Lib.hid (user_one N on np qh qk qc nh ch nk ck nc cc mm)
 simp only [ucs,ucs0] at HA HCs HOn n1 n2 n3 HEm
 have e1 : decide ((64 : Int) < (nh : Int)) = false := decide_eq_false (by omega)
 have e2 : decide ((64 : Int) < (nk : Int)) = false := decide_eq_false (by omega)
 have e3 : decide ((64 : Int) < (nc : Int)) = false := decide_eq_false (by omega)
 have HF := Lib.hid hf
 clear hU hf
 show Calls Tryz.prog 11 #[.agg #[.string N,.bool on,.bool np,.slice qh nh ch,.int .u64 mm,.slice qk nk ck,.slice qc nc cc],.agg #[.int .u8 5,.string T,.bool a,.bool b,.int .u64 (m : Int)],.slice sq sn sc,.int .i64 n] w _
 go_enter Tryz.func11,Tryz.ntmps11
 go_upto_region 1 with fail
 generalize ((w.alloc _).alloc _).alloc _ = w1 at HA ⊢
 obtain ⟨c0,c1,c2,c3,c4⟩ := box_cells HA.out.br
 go_wp2_with fail
 refine (CR.out _).mono ?_
 rintro e w2 ⟨rfl,hb2⟩
 have HA2 := Lib.hid (HA.out.keep hb2)
 clear hb2 HA CR c0 c1 c2 c3 c4
 obtain ⟨u0,u1,u2,u3,u4,u5,u6⟩ := u_cells HA2.out.bx
 have HO := Lib.hid (AO.new HA2.out)
 simp only [ucs] at HO
 go_upto_region 5 with fail
 generalize w2.heap.size = g at HO ⊢
 generalize w2.alloc _ = w3 at HO ⊢
 clear u0 u1 u2 u3 u4 u5 u6 HA2
 obtain ⟨c0,c1,c2,c3,c4⟩ := box_cells HO.out.ab.br
 obtain ⟨u0,u1,u2,u3,u4,u5,u6⟩ := u_cells HO.out.ab.bx
 obtain ⟨x0,x1,x2,x3,x4,x5,x6⟩ := u_cells HO.out.bo
 have fz := fun j => frozen_of_row _ _ j _ _ HO.out.bo
 have f0 := fz 0
 have f1 := fz 1
 have f2 := fz 2
 have f3 := fz 3
 have f4 := fz 4
 have f5 := fz 5
 have f6 := fz 6
 clear fz
 go_wp2_with fail
 refine (HC5.out _ HO.out.ab.bel).mono ?_
 rintro e w3b ⟨rfl,hb5⟩
 have HOb := Lib.hid (HO.out.keep hb5)
 clear hb5 HO HC5
 clear c0 c1 c2 c3 c4 u0 u1 u2 u3 u4 u5 u6 x0 x1 x2 x3 x4 x5 x6 f0 f1 f2 f3 f4 f5 f6
 obtain ⟨c0,c1,c2,c3,c4⟩ := box_cells HOb.out.ab.br
 obtain ⟨u0,u1,u2,u3,u4,u5,u6⟩ := u_cells HOb.out.ab.bx
 obtain ⟨x0,x1,x2,x3,x4,x5,x6⟩ := u_cells HOb.out.bo
 have fz := fun j => frozen_of_row _ _ j _ _ HOb.out.bo
 have f0 := fz 0
 have f1 := fz 1
 have f2 := fz 2
 have f3 := fz 3
 have f4 := fz 4
 have f5 := fz 5
 have f6 := fz 6
 clear fz
 go_wp2_with (with_reducible refine wpList_store_row rfl 26 (.tmp 8) (.tmp 56) rfl (w.heap.size + 2) #[.string N,.bool on,.bool np,.slice qh nh ch,.int .u64 mm,.slice qk nk ck,.slice qc nc cc] rfl rfl 26 _ HOb.out.ab.bz HCs.out rfl HOn.out ?_)
 exact bodyPost_ret (results_cell_slot rfl _ _ (w.heap.size + 2) 26 #[.string N,.bool on,.bool np,.slice qh nh ch,.int .u64 mm,.slice qk nk ck,.slice qc nc cc] (0,0) _ (.bool false) rfl (setRow_heap _ (w.heap.size + 2) _ _ _ _ HOb.out.ab.bz) Tryz.underlying26 rfl HCs.out rfl) rfl HOb.out.ab.fin
theorem apply_ok {u : UV} {r : RV} {rec : Option (List UInt8)} (hr : rightR r = true) (h5 : r.kind ≠ 5) (hf : fewB (setU u r []) = true) : applyD u r rec = some (setU u r []) := by
 unfold applyD
 rw [if_pos hr,if_neg h5,if_pos hf]
theorem apply_few {u : UV} {r : RV} {rec : Option (List UInt8)} (hr : rightR r = true) (h5 : r.kind ≠ 5) {P : Prop} [Decidable P] (hf : fewB (setU u r []) = decide P) : applyD u r rec = if P then some (setU u r []) else none := by
 unfold applyD
 rw [if_pos hr,if_neg h5]
 by_cases h : P
 · rw [if_pos h,if_pos (by rw [hf]; exact decide_eq_true h)]
 · rw [if_neg h,if_neg (by rw [hf]; simp [h])]
theorem few_len {u : UV} (h : fewB u = true) : u.hs.length ≤ 64 ∧ u.ks.length ≤ 64 ∧ u.cs.length ≤ 64 := of_decide_eq_true h
theorem few_hs {u v : UV} (h : fewB u = true) (h1 : v.ks = u.ks) (h2 : v.cs = u.cs) : fewB v = decide (v.hs.length ≤ 64) := by
 have := few_len h
 unfold fewB
 rw [h1,h2,Bool.eq_iff_iff,decide_eq_true_eq,decide_eq_true_eq]
 omega
theorem few_ks {u v : UV} (h : fewB u = true) (h1 : v.hs = u.hs) (h2 : v.cs = u.cs) : fewB v = decide (v.ks.length ≤ 64) := by
 have := few_len h
 unfold fewB
 rw [h1,h2,Bool.eq_iff_iff,decide_eq_true_eq,decide_eq_true_eq]
 omega
theorem few_cs {u v : UV} (h : fewB u = true) (h1 : v.hs = u.hs) (h2 : v.ks = u.ks) : fewB v = decide (v.cs.length ≤ 64) := by
 have := few_len h
 unfold fewB
 rw [h1,h2,Bool.eq_iff_iff,decide_eq_true_eq,decide_eq_true_eq]
 omega
theorem few_sub {u v : UV} (h : fewB u = true) (h1 : v.hs.length ≤ u.hs.length) (h2 : v.ks.length ≤ u.ks.length) (h3 : v.cs.length ≤ u.cs.length) : fewB v = true := by
 have := few_len h
 exact few_of (by omega) (by omega) (by omega)
theorem rec_any (T : ByteArray) (sq : Option Addr) (sn sc : Nat) (salt : List UInt8) (n : Int) (w : World) (hz : T.size ≤ 1048576) (hs : ShaT.Bs w sq salt) (hsn : salt.length = sn) (hsc : sq = none → sc = 0) :
  ∀ W,Below w.heap.size w W → Calls Tryz.prog 26 #[.string T,.slice sq sn sc,.int .i64 n] W fun e w' => e = .returned (.tuple #[.string ⟨((recD T.data.toList salt n).getD []).toArray⟩,.bool (recD T.data.toList salt n).isSome]) ∧ Below W.heap.size W w' := by
 intro W hW
 by_cases h : (1 ≤ n ∧ n ≤ 64) ∧ salt.length ≤ 32
 · obtain ⟨r,rfl⟩ : ∃ r : Nat,n = (r : Int) := ⟨n.toNat,by omega⟩
   rw [show recD T.data.toList salt (r : Int) = some (MacM.recL r salt (MacM.derL T.data.toList salt r)) from if_pos h]
   exact RefM.rrecord_yes T sq salt sn sc r W (by omega) (by omega) (by omega) hsn (hs.keep hW) (by omega) hsc
 · rw [show recD T.data.toList salt n = none from if_neg h]
   exact RefM.rrecord_no T sq sn sc n W (by rw [← hsn]; exact h)
theorem apply_any (p : UP) (k m : Nat) (T : ByteArray) (a b : Bool) (sq : Option Addr) (sn sc : Nat) (salt : List UInt8) (n : Int) (w : World) (hU : UIn w p) (hz : T.size ≤ 1048576) (hm : m < 18446744073709551616) (hk : k ≤ 255) (hf : fewB p.d = true) (hs : ShaT.Bs w sq salt) (hsn : salt.length = sn) (hsc : sq = none → sc = 0) :
  ApG p (k : Int) T a b (m : Int) sq sn sc n w (applyD p.d ⟨k,T.data.toList,a,b,m⟩ (recD T.data.toList salt n)) := by
 have HRec := rec_any T sq sn sc salt n w hz hs hsn hsc
 generalize recD T.data.toList salt n = rec at HRec ⊢
 cases hr : rightR ⟨k,T.data.toList,a,b,m⟩ with
 | false =>
   rw [show applyD p.d ⟨k,T.data.toList,a,b,m⟩ rec = none by unfold applyD; rw [if_neg (by rw [hr]; exact Bool.false_ne_true)]]
   exact apply_no p k m T a b sq sn sc n w hU hz hm hk hr
 | true =>
   obtain ⟨h1,h14⟩ := kind_of hr
   simp only at h1 h14
   match k,h1,h14,hr with
   | 1,_,_,hr =>
     rw [apply_ok hr (by simp) (few_sub hf (by simp [setU]) (by simp [setU]) (by simp [setU]))]
     exact apply_1 p m T a b sq sn sc n w hU hz hm hf hr
   | 2,_,_,hr =>
     rw [apply_ok hr (by simp) (few_sub hf (by simp [setU]) (by simp [setU]) (by simp [setU]))]
     exact apply_2 p m T a b sq sn sc n w hU hz hm hf hr
   | 3,_,_,hr =>
     rw [apply_ok hr (by simp) (few_sub hf (by simp [setU]) (by simp [setU]) (by simp [setU]))]
     exact apply_3 p m T a b sq sn sc n w hU hz hm hf hr
   | 4,_,_,hr =>
     rw [apply_ok hr (by simp) (few_sub hf (by simp [setU]) (by simp [setU]) (by simp [setU]))]
     exact apply_4 p m T a b sq sn sc n w hU hz hm hf hr
   | 7,_,_,hr =>
     rw [apply_ok hr (by simp) (few_sub hf (List.length_filter_le _ _) (Nat.le_refl _) (Nat.le_refl _))]
     exact apply_7 p m T a b sq sn sc n w hU hz hm hf hr
   | 8,_,_,hr =>
     rw [apply_ok hr (by simp) (few_sub hf (by simp [setU]) (by simp [setU]) (by simp [setU]))]
     exact apply_8 p m T a b sq sn sc n w hU hz hm hf hr
   | 9,_,_,hr =>
     rw [apply_ok hr (by simp) (few_sub hf (by simp [setU]) (by simp [setU]) (by simp [setU]))]
     exact apply_9 p m T a b sq sn sc n w hU hz hm hf hr
   | 11,_,_,hr =>
     rw [apply_ok hr (by simp) (few_sub hf (by simp [setU]) (by simp [setU]) (by simp [setU]))]
     exact apply_11 p m T a b sq sn sc n w hU hz hm hf hr
   | 13,_,_,hr =>
     rw [apply_ok hr (by simp) (few_sub hf (by simp [setU]) (by simp [setU]) (by simp [setU]))]
     exact apply_13 p m T a b sq sn sc n w hU hz hm hf hr
   | 14,_,_,hr =>
     rw [apply_ok hr (by simp) (few_sub hf (by simp [setU,newU]) (by simp [setU,newU]) (by simp [setU,newU]))]
     exact apply_14 p m T a b sq sn sc n w hU hz hm hf hr
   | 6,_,_,hr =>
     rw [apply_few (P := (moreL p.d.hs T.data.toList).length ≤ 64) hr (by simp) (few_hs hf rfl rfl)]
     exact apply_6 p m T a b sq sn sc n w hU hz hm hf hr
   | 10,_,_,hr =>
     rw [apply_few (P := (keysL p.d.ks T.data.toList a b).length ≤ 64) hr (by simp) (few_ks hf rfl rfl)]
     exact apply_10 p m T a b sq sn sc n w hU hz hm hf hr
   | 12,_,_,hr =>
     rw [apply_few (P := (moreL p.d.cs T.data.toList).length ≤ 64) hr (by simp) (few_cs hf rfl rfl)]
     exact apply_12 p m T a b sq sn sc n w hU hz hm hf hr
   | 5,_,_,hr =>
     cases rec with
     | none =>
       rw [show applyD p.d ⟨5,T.data.toList,a,b,m⟩ none = none by unfold applyD; rw [if_pos hr]; rfl]
       exact apply_5n p m T a b sq sn sc n w hU hz hm hf hr HRec
     | some H =>
       have e : applyD p.d ⟨5,T.data.toList,a,b,m⟩ (some H) = if (moreL p.d.hs H).length ≤ 64 then some (setU p.d ⟨5,T.data.toList,a,b,m⟩ H) else none := by
        unfold applyD
        rw [if_pos hr,if_pos rfl]
        have hfw : fewB (setU p.d ⟨5,T.data.toList,a,b,m⟩ H) = decide ((moreL p.d.hs H).length ≤ 64) := few_hs hf rfl rfl
        simp only [hfw,decide_eq_true_eq]
       rw [e]
       exact apply_5 p m T a b sq sn sc n w hU hz hm hf hr ⟨H.toArray⟩ H rfl HRec
end Go.Proofs.YtpoinibckmbfcaaGreatDoor.RefUser
