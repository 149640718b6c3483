/-
  Packed by program.
-/
import Derived.Test.YtpoinibckmbfcaaGreatDoorPk43
namespace Go.Proofs.YtpoinibckmbfcaaGreatDoor.UserM
open Go.RowKit Kit StrT RowG RuleT UserT UserR TableMath Low ValT RefUser
open Go.Sort (grow)
open RefRule (results_cell_slot)
set_option linter.unusedVariables false
set_option maxRecDepth 100000
theorem own_fin {w wr w' : World} {p p' : UP} {r : Array Value} (h : AB w p r wr) (hu : UO wr w' p') (hd : p'.d = p.d) : AnsUB p.at_ p.d false w (.returned (.tuple #[p'.agg,.bool false])) (w'.setRow (w.heap.size + 2) (ucs p')) := by
 have hl := h.lt
 have hb := h.bel.trans (hu.bl.mono h.bel.size)
 exact ⟨p',rfl,UIn.row hu.i _ (fun k hk => by have := (hu.at_ k hk).1; omega),hd,fun k hk => Or.inr (by have := (hu.at_ k hk).1; have := h.bel.size; omega),below_setRow hb (by omega) _⟩
theorem box_room {w wr w' : World} {p : UP} {r : Array Value} (h : AB w p r wr) (hb : Below wr.heap.size wr w') : w'.heap[w.heap.size + 2]? = some (.cells ucs0 26 (0,0)) := (h.keep hb).bz
set_option maxHeartbeats 4000000 in
theorem apply_bad (p : UP) (k m : Nat) (T : ByteArray) (a b : Bool) (sq : Option Addr) (sn sc : Nat) (n : Int) (w : World) (hg : Gu w) (hU : UIn w p) (hz : T.size ≤ 1048576) (hm : m < 18446744073709551616) (hr : rightR ⟨k,T.data.toList,a,b,m⟩ = false) :
  Calls Tryz.prog 10 #[p.agg,.agg #[.int .u8 (k : Int),.string T,.bool a,.bool b,.int .u64 (m : Int)],.slice sq sn sc,.int .i64 n] w (AnsUB p.at_ p.d false w) := by
 have HA := Lib.hid (AB.new hU #[Value.int .u8 (k : Int),.string T,.bool a,.bool b,.int .u64 (m : Int)])
 have HG := Lib.hid hg
 have CR := Lib.hid (fun W (hW : Gu W) => isRule_any k m T a b W hz hm hW)
 rw [hr] at CR
 obtain ⟨N,on,np,qh,nh,ch,mm,qk,nk,ck,qc,nc,cc,d⟩ := p
 have CO := Lib.hid (fun W (h : AB w ⟨N,on,np,qh,nh,ch,mm,qk,nk,ck,qc,nc,cc,d⟩ #[Value.int .u8 (k : Int),.string T,.bool a,.bool b,.int .u64 (m : Int)] W) => own_u ⟨N,on,np,qh,nh,ch,mm,qk,nk,ck,qc,nc,cc,d⟩ W h.ip)
 simp only [ucs,ucs0,UP.agg] at HA CO
 clear hU hg hr
 show Calls Tryz.prog 10 #[.agg #[.string N,.bool on,.bool np,.slice qh nh ch,.int .u64 mm,.slice qk nk ck,.slice qc nc cc],.agg #[.int .u8 (k : Int),.string T,.bool a,.bool b,.int .u64 (m : Int)],.slice sq sn sc,.int .i64 n] w _
 go_enter Tryz.func10,Tryz.ntmps10
 go_upto_region 1 with fail
 generalize ((w.alloc _).alloc _).alloc _ = w1 at HA ⊢
 obtain ⟨c0,c1,c2,c3,c4⟩ := box_cells HA.out.br
 go_wp2_with fail
 with_reducible refine (CR.out _ (HG.out.keep HA.out.bel)).mono ?_
 rintro e w2 ⟨rfl,hb2⟩
 have HA2 := Lib.hid (HA.out.keep hb2)
 clear hb2 HA CR c0 c1 c2 c3 c4
 obtain ⟨u0,u1,u2,u3,u4,u5,u6⟩ := u_cells HA2.out.bx
 go_wp2_with fail
 with_reducible refine (CO.out _ HA2.out).mono ?_
 rintro e w3 ⟨⟨N2,on2,np2,qh2,nh2,ch2,mm2,qk2,nk2,ck2,qc2,nc2,cc2,d2⟩,rfl,hu,hd⟩
 dsimp only
 have HE := Lib.hid (own_fin HA2.out hu hd)
 have HZ := Lib.hid (box_room HA2.out hu.bl)
 have HCs := Lib.hid (ucs_size ⟨N2,on2,np2,qh2,nh2,ch2,mm2,qk2,nk2,ck2,qc2,nc2,cc2,d2⟩)
 have HOn := Lib.hid (user_one N2 on2 np2 qh2 qk2 qc2 nh2 ch2 nk2 ck2 nc2 cc2 mm2)
 simp only [ucs,ucs0,UP.agg] at HE HZ HCs
 clear hu hd CO HA2 u0 u1 u2 u3 u4 u5 u6
 go_wp2_with (with_reducible refine wpList_store_row rfl 26 (.tmp 8) (.tmp 16) rfl (w.heap.size + 2) #[.string N2,.bool on2,.bool np2,.slice qh2 nh2 ch2,.int .u64 mm2,.slice qk2 nk2 ck2,.slice qc2 nc2 cc2] rfl rfl 26 _ HZ.out HCs.out rfl HOn.out ?_)
 exact bodyPost_ret (results_cell_slot rfl _ _ (w.heap.size + 2) 26 #[.string N2,.bool on2,.bool np2,.slice qh2 nh2 ch2,.int .u64 mm2,.slice qk2 nk2 ck2,.slice qc2 nc2 cc2] (0,0) _ (.bool false) rfl (setRow_heap _ (w.heap.size + 2) _ _ _ _ HZ.out) Tryz.underlying26 rfl HCs.out rfl) rfl HE.out
theorem pmax (x y z M : Nat) (hM : M = max (max x y) z) (ats : Array TypeId) (ty : TypeId) (W : World) : (Builtin.max_ ats ty #[.int .i64 (x : Int),.int .i64 (y : Int),.int .i64 (z : Int)]).run Tryz.prog W = .ok (.int .i64 (M : Int)) W := by
 have e : (if (z : Int) > (if (y : Int) > (x : Int) then (y : Int) else (x : Int)) then (z : Int) else (if (y : Int) > (x : Int) then (y : Int) else (x : Int))) = (M : Int) := by
  split <;> split <;> omega
 rw [← e]
 rfl
theorem b_dr {w : World} : Below w.heap.size w w.drew := (Below.refl _ _).drew
theorem b_ad (w : World) (o : Obj) : Below w.heap.size w (w.alloc o).drew := (Kit.below1 w o).drew
theorem b_da (w : World) (o : Obj) : Below w.heap.size w (w.drew.alloc o) := b_dr.alloc (Nat.le_refl _) o
theorem room_to {w0 w w' : World} {g : Nat} {p : UP} {cs : Array Value} {o : Option UV} {F : Nat → Prop} (hu : UO w0 w p) (hz : w.heap[g]? = some (.cells cs 26 (0,0))) (hot : ∀ k,k < w.heap.size → ¬ ownF p k → w'.heap[k]? = w.heap[k]?) : w'.heap[g]? = some (.cells cs 26 (0,0)) := by
 rw [hot g (Array.getElem?_eq_some_iff.1 hz).1 (fun hF => ?_)]
 · exact hz
 · rcases hF with hF | hF | hF
   · exact own_apart hu.h hz (by decide) g hF rfl
   · exact own_apart hu.k hz (by decide) g hF rfl
   · exact own_apart hu.c hz (by decide) g hF rfl
set_option maxHeartbeats 16000000 in
theorem apply_good (p : UP) (k m : Nat) (T : ByteArray) (a b : Bool) (sq : Option Addr) (sn sc : Nat) (salt : List UInt8) (n : Int) (w : World) (hg : Gu w) (hU : UIn w p) (hR : p.d.hs.length ≤ 64 ∧ p.d.ks.length ≤ 64 ∧ p.d.cs.length ≤ 64) (hz : T.size ≤ 1048576) (hm : m < 18446744073709551616) (hs : ShaT.Bs w sq salt) (hsn : salt.length = sn) (hr : rightR ⟨k,T.data.toList,a,b,m⟩ = true) (oo : Option UV) (hoo : oo = (chD p.d ⟨k,T.data.toList,a,b,m⟩ (recD T.data.toList salt n)).bind fun v => if fewB v then some v else none) :
  Calls Tryz.prog 10 #[p.agg,.agg #[.int .u8 (k : Int),.string T,.bool a,.bool b,.int .u64 (m : Int)],.slice sq sn sc,.int .i64 n] w (AnsUB p.at_ (oo.getD p.d) oo.isSome w) := by
 have HA := Lib.hid (AB.new hU #[Value.int .u8 (k : Int),.string T,.bool a,.bool b,.int .u64 (m : Int)])
 have HG := Lib.hid hg
 have CR := Lib.hid (fun W (hW : Gu W) => isRule_any k m T a b W hz hm hW)
 rw [hr] at CR
 obtain ⟨N,on,np,qh,nh,ch,mm,qk,nk,ck,qc,nc,cc,d⟩ := p
 have hfew : d.hs.length ≤ 64 ∧ d.ks.length ≤ 64 ∧ d.cs.length ≤ 64 := hR
 have CO := Lib.hid (fun W0 W (h : AB w ⟨N,on,np,qh,nh,ch,mm,qk,nk,ck,qc,nc,cc,d⟩ #[Value.int .u8 (k : Int),.string T,.bool a,.bool b,.int .u64 (m : Int)] W0) (hb : Below W0.heap.size W0 W) => own_u ⟨N,on,np,qh,nh,ch,mm,qk,nk,ck,qc,nc,cc,d⟩ W (h.ip.keep hb))
 have CX := Lib.hid (fun W0 W (q : UP) (h : UO W0 W q) (hd : q.d = d) (hb : Below w.heap.size w W) => (show Calls Tryz.prog 24 #[.agg #[.string q.N,.bool q.on,.bool q.np,.slice q.qh q.nh q.ch,.int .u64 q.m,.slice q.qk q.nk q.ck,.slice q.qc q.nc q.cc],.agg #[.int .u8 (k : Int),.string T,.bool a,.bool b,.int .u64 (m : Int)],.slice sq sn sc,.int .i64 n] W (ChA W0 W (ownF q) (chD d ⟨k,T.data.toList,a,b,m⟩ (recD T.data.toList salt n))) from hd ▸ chg_any W0 W q k m T a b sq sn sc salt n h hm (by rw [← h.i.h.l,← h.i.k.l,← h.i.c.l,hd]; exact hfew) hr (hg.keep hb) hz (hs.keep hb) hsn))
 generalize chD d ⟨k,T.data.toList,a,b,m⟩ (recD T.data.toList salt n) = oc at CX hoo
 have HOO := Lib.hid hoo
 simp only [ucs,ucs0,UP.agg] at HA CO
 clear hU hg hr hR hfew hs hsn hoo
 show Calls Tryz.prog 10 #[.agg #[.string N,.bool on,.bool np,.slice qh nh ch,.int .u64 mm,.slice qk nk ck,.slice qc nc cc],.agg #[.int .u8 (k : Int),.string T,.bool a,.bool b,.int .u64 (m : Int)],.slice sq sn sc,.int .i64 n] w _
 go_enter Tryz.func10,Tryz.ntmps10
 go_upto_region 1 with fail
 generalize ((w.alloc _).alloc _).alloc _ = w1 at HA ⊢
 obtain ⟨c0,c1,c2,c3,c4⟩ := box_cells HA.out.br
 go_wp2_with fail
 with_reducible refine (CR.out _ (HG.out.keep HA.out.bel)).mono ?_
 rintro e w2 ⟨rfl,hb2⟩
 have HA2 := Lib.hid (HA.out.keep hb2)
 clear hb2 HA CR c0 c1 c2 c3 c4
 go_upto_region 3 with fail
 obtain ⟨u0,u1,u2,u3,u4,u5,u6⟩ := u_cells HA2.out.bx
 obtain ⟨c0,c1,c2,c3,c4⟩ := box_cells HA2.out.br
 obtain ⟨v0,v1,v2,v3,v4,v5,v6⟩ := u_cells (HA2.out.keep (Kit.below1 w2 (.cells #[.string ⟨#[]⟩,.bool false,.bool false,.slice none 0 0,.int .u64 0,.slice none 0 0,.slice none 0 0] 26))).bx
 obtain ⟨r0,r1,r2,r3,r4⟩ := box_cells (HA2.out.keep (Kit.below1 w2 (.cells #[.string ⟨#[]⟩,.bool false,.bool false,.slice none 0 0,.int .u64 0,.slice none 0 0,.slice none 0 0] 26))).br
 go_cut [10,11] (fun s10 s11 wx => ∃ (g : Nat) (p2 : UP) (ok : Bool),s10 = .pointer (some ⟨g,0,none⟩) ∧ s11 = .bool ok ∧ Hid (ok = oc.isSome ∧ Chd w ⟨N,on,np,qh,nh,ch,mm,qk,nk,ck,qc,nc,cc,d⟩ #[Value.int .u8 (k : Int),.string T,.bool a,.bool b,.int .u64 (m : Int)] oc g p2 wx))
 case first =>
  go_region_law (first
   | (go_simp; (with_reducible refine (CO.out _ _ HA2.out (by first | exact b_dr | exact b_ad _ _ | exact b_da _ _)).mono ?_); rintro e wO ⟨⟨N1,on1,np1,qh1,nh1,ch1,mm1,qk1,nk1,ck1,qc1,nc1,cc1,d1⟩,rfl,hU1,hd1⟩; dsimp only
      have hbO : Below w2.heap.size w2 wO := by first | exact b_dr.trans (hU1.bl.mono b_dr.size) | exact (b_ad _ _).trans (hU1.bl.mono (b_ad w2 _).size) | exact (b_da _ _).trans (hU1.bl.mono (b_da w2 _).size)
      have HUo := Lib.hid (show UO w2 wO ⟨N1,on1,np1,qh1,nh1,ch1,mm1,qk1,nk1,ck1,qc1,nc1,cc1,d1⟩ from by first | exact hU1.low b_dr | exact hU1.low (b_ad _ _) | exact hU1.low (b_da _ _))
      have HBo := Lib.hid (HA2.out.bel.trans (hbO.mono HA2.out.bel.size))
      obtain ⟨c0,c1,c2,c3,c4⟩ := box_cells (HA2.out.keep hbO).br
      obtain ⟨e0,e1,e2,e3,e4⟩ := box_cells ((HA2.out.keep hbO).keep (Kit.below1 wO (.cells #[.string ⟨#[]⟩,.bool false,.bool false,.slice none 0 0,.int .u64 0,.slice none 0 0,.slice none 0 0] 26))).br
      first
       | (have HZ1 := Lib.hid (show wO.heap[w2.heap.size]? = some (.cells #[.string ⟨#[]⟩,.bool false,.bool false,.slice none 0 0,.int .u64 0,.slice none 0 0,.slice none 0 0] 26 (0,0)) from (hU1.bl.block w2.heap.size (by simp)).trans (heap_alloc_last w2 _)))
       | skip
      clear hU1 hbO)
   | (go_simp; (with_reducible refine (CX.out w2 _ ⟨N1,on1,np1,qh1,nh1,ch1,mm1,qk1,nk1,ck1,qc1,nc1,cc1,d1⟩ (by first | exact HUo.out | exact HUo.out.keep (Kit.below1 _ _)) hd1 (by first | exact HBo.out | exact HBo.out.alloc HBo.out.size _)).mono ?_); rintro e wX ⟨p2,ok,rfl,hok,hd2,hb2,hot,hsz⟩; dsimp only [UP.agg]
      first
       | (have hz := room_to (o := oc) (F := fun _ => False) HUo.out HZ1.out hot
          obtain ⟨x0,x1,x2,x3,x4,x5,x6⟩ := u_cells hz
          have fz := fun j => frozen_of_row _ _ j _ _ hz
          have f0 := fz 0
          have f1 := fz 1
          have f2 := fz 2
          have f3 := fz 3
          have f4 := fz 4
          have f5 := fz 5
          have f6 := fz 6
          have HC := Lib.hid (chd_room HA2.out hb2 (Nat.le_refl _) hz hd2)
          clear fz hz)
       | (have hz := room_to (o := oc) (F := fun _ => False) (HUo.out.keep (Kit.below1 wO (.cells #[.string ⟨#[]⟩,.bool false,.bool false,.slice none 0 0,.int .u64 0,.slice none 0 0,.slice none 0 0] 26))) (heap_alloc_last wO _) hot
          obtain ⟨x0,x1,x2,x3,x4,x5,x6⟩ := u_cells hz
          have fz := fun j => frozen_of_row _ _ j _ _ hz
          have f0 := fz 0
          have f1 := fz 1
          have f2 := fz 2
          have f3 := fz 3
          have f4 := fz 4
          have f5 := fz 5
          have f6 := fz 6
          have HC := Lib.hid (chd_room HA2.out hb2 HUo.out.bl.size hz hd2)
          clear fz hz)
       | (have HC := Lib.hid (chd_last HA2.out hb2 hd2))
      have HOk := Lib.hid hok
      clear hok hd2 hb2 hot hsz c0 c1 c2 c3 c4 e0 e1 e2 e3 e4))
  all_goals
   go_wp2_with fail
   go_meet
   first
    | (simp only [set7] at HC; exact ⟨_,_,_,rfl,rfl,Lib.hid ⟨HOk.out,HC.out⟩⟩)
    | exact ⟨_,_,_,rfl,rfl,Lib.hid ⟨HOk.out,HC.out⟩⟩
 case rest =>
  obtain ⟨g,⟨N2,on2,np2,qh2,nh2,ch2,mm2,qk2,nk2,ck2,qc2,nc2,cc2,d2⟩,ok,rfl,rfl,H⟩ := hcut
  have HC := Lib.hid H.out.2
  have hok := H.out.1
  clear H CX HA2 u0 u1 u2 u3 u4 u5 u6 c0 c1 c2 c3 c4 v0 v1 v2 v3 v4 v5 v6 r0 r1 r2 r3 r4
  cases ok with
  | false =>
    have hoc : oc = none := by
     cases oc with
     | none => rfl
     | some v => cases hok
    have HOn2 := Lib.hid (show oo = none by rw [HOO.out,hoc]; rfl)
    clear hok hoc HOO
    obtain ⟨u0,u1,u2,u3,u4,u5,u6⟩ := u_cells HC.out.ab.bx
    go_wp2_with fail
    with_reducible refine (CO.out _ _ HC.out.ab (Below.refl _ _)).mono ?_
    rintro e w3 ⟨⟨N3,on3,np3,qh3,nh3,ch3,mm3,qk3,nk3,ck3,qc3,nc3,cc3,d3⟩,rfl,hu,hd⟩
    dsimp only
    have HE := Lib.hid (own_fin HC.out.ab hu hd)
    have HZ := Lib.hid (box_room HC.out.ab hu.bl)
    have HCs := Lib.hid (ucs_size ⟨N3,on3,np3,qh3,nh3,ch3,mm3,qk3,nk3,ck3,qc3,nc3,cc3,d3⟩)
    have HOn := Lib.hid (user_one N3 on3 np3 qh3 qk3 qc3 nh3 ch3 nk3 ck3 nc3 cc3 mm3)
    simp only [ucs,ucs0,UP.agg] at HE HZ HCs
    clear hu hd CO HC u0 u1 u2 u3 u4 u5 u6
    go_wp2_with (with_reducible refine wpList_store_row rfl 26 (.tmp 8) (.tmp 42) rfl (w.heap.size + 2) #[.string N3,.bool on3,.bool np3,.slice qh3 nh3 ch3,.int .u64 mm3,.slice qk3 nk3 ck3,.slice qc3 nc3 cc3] rfl rfl 26 _ HZ.out HCs.out rfl HOn.out ?_)
    exact bodyPost_ret (results_cell_slot rfl _ _ (w.heap.size + 2) 26 #[.string N3,.bool on3,.bool np3,.slice qh3 nh3 ch3,.int .u64 mm3,.slice qk3 nk3 ck3,.slice qc3 nc3 cc3] (0,0) _ (.bool false) rfl (setRow_heap _ (w.heap.size + 2) _ _ _ _ HZ.out) Tryz.underlying26 rfl HCs.out rfl) rfl (by rw [HOn2.out]; exact HE.out)
  | true =>
    obtain ⟨dd,hdd⟩ : ∃ v,oc = some v := by
     cases oc with
     | none => cases hok
     | some v => exact ⟨v,rfl⟩
    obtain ⟨h1,hi,hat⟩ := HC.out.ok dd hdd
    have hd2 : d2 = dd := h1
    subst hd2
    have hbf : decide (nh2 ≤ 64 ∧ nk2 ≤ 64 ∧ nc2 ≤ 64) = fewB d2 := by
     unfold fewB
     rw [hi.h.l,hi.k.l,hi.c.l]
    obtain ⟨M,hM⟩ : ∃ M,M = max (max nh2 nk2) nc2 := ⟨_,rfl⟩
    have hmx := pmax nh2 nk2 nc2 M hM
    have hd64 : decide ((64 : Int) < (M : Int)) = !fewB d2 := by
     rw [← hbf]
     by_cases h : nh2 ≤ 64 ∧ nk2 ≤ 64 ∧ nc2 ≤ 64
     · rw [decide_eq_true h,decide_eq_false (by omega)]
       rfl
     · rw [decide_eq_false h,decide_eq_true (by omega)]
       rfl
    have HX := Lib.hid HC.out.bo
    simp only [ucs] at HX
    obtain ⟨x0,x1,x2,x3,x4,x5,x6⟩ := u_cells HX.out
    obtain ⟨B,hB⟩ : ∃ B,B = fewB d2 := ⟨_,rfl⟩
    rw [← hB] at hd64
    cases B with
    | true =>
      have HOn2 := Lib.hid (show oo = some d2 by rw [HOO.out,hdd]; exact if_pos hB.symm)
      have HI := Lib.hid hi
      have HAt := Lib.hid hat
      have hd65 : decide ((64 : Int) < (M : Int)) = false := hd64
      have HCs := Lib.hid (ucs_size ⟨N2,on2,np2,qh2,nh2,ch2,mm2,qk2,nk2,ck2,qc2,nc2,cc2,d2⟩)
      have HOn := Lib.hid (user_one N2 on2 np2 qh2 qk2 qc2 nh2 ch2 nk2 ck2 nc2 cc2 mm2)
      have HZ := Lib.hid HC.out.ab.bz
      simp only [ucs,ucs0] at HCs HZ
      clear hok hdd h1 hi hat hbf hM hd64 hB HOO CO
      go_wp2_with (with_reducible refine wpList_store_row rfl 26 (.tmp 8) (.tmp 43) rfl (w.heap.size + 2) #[.string N2,.bool on2,.bool np2,.slice qh2 nh2 ch2,.int .u64 mm2,.slice qk2 nk2 ck2,.slice qc2 nc2 cc2] rfl rfl 26 _ HZ.out HCs.out rfl HOn.out ?_)
      exact bodyPost_ret (results_cell_slot rfl _ _ (w.heap.size + 2) 26 #[.string N2,.bool on2,.bool np2,.slice qh2 nh2 ch2,.int .u64 mm2,.slice qk2 nk2 ck2,.slice qc2 nc2 cc2] (0,0) _ (.bool true) rfl (setRow_heap _ (w.heap.size + 2) _ _ _ _ HZ.out) Tryz.underlying26 rfl HCs.out rfl) rfl (by
       rw [HOn2.out]
       exact ⟨⟨N2,on2,np2,qh2,nh2,ch2,mm2,qk2,nk2,ck2,qc2,nc2,cc2,d2⟩,rfl,UIn.row HI.out _ (fun k hk => by have := HAt.out k hk; omega),rfl,fun k hk => Or.inr (by have := HAt.out k hk; omega),below_setRow HC.out.ab.bel (by omega) _⟩)
    | false =>
      have HOn2 := Lib.hid (show oo = none by rw [HOO.out,hdd]; exact if_neg (by rw [← hB]; exact Bool.false_ne_true))
      have hd65 : decide ((64 : Int) < (M : Int)) = true := hd64
      clear hok hdd h1 hi hat hbf hM hd64 hB HOO
      obtain ⟨u0,u1,u2,u3,u4,u5,u6⟩ := u_cells HC.out.ab.bx
      go_wp2_with fail
      with_reducible refine (CO.out _ _ HC.out.ab (Below.refl _ _)).mono ?_
      rintro e w3 ⟨⟨N3,on3,np3,qh3,nh3,ch3,mm3,qk3,nk3,ck3,qc3,nc3,cc3,d3⟩,rfl,hu,hd⟩
      dsimp only
      have HE := Lib.hid (own_fin HC.out.ab hu hd)
      have HZ := Lib.hid (box_room HC.out.ab hu.bl)
      have HCs := Lib.hid (ucs_size ⟨N3,on3,np3,qh3,nh3,ch3,mm3,qk3,nk3,ck3,qc3,nc3,cc3,d3⟩)
      have HOn := Lib.hid (user_one N3 on3 np3 qh3 qk3 qc3 nh3 ch3 nk3 ck3 nc3 cc3 mm3)
      simp only [ucs,ucs0,UP.agg] at HE HZ HCs
      clear hu hd CO HC u0 u1 u2 u3 u4 u5 u6
      go_wp2_with (with_reducible refine wpList_store_row rfl 26 (.tmp 8) (.tmp 42) rfl (w.heap.size + 2) #[.string N3,.bool on3,.bool np3,.slice qh3 nh3 ch3,.int .u64 mm3,.slice qk3 nk3 ck3,.slice qc3 nc3 cc3] rfl rfl 26 _ HZ.out HCs.out rfl HOn.out ?_)
      exact bodyPost_ret (results_cell_slot rfl _ _ (w.heap.size + 2) 26 #[.string N3,.bool on3,.bool np3,.slice qh3 nh3 ch3,.int .u64 mm3,.slice qk3 nk3 ck3,.slice qc3 nc3 cc3] (0,0) _ (.bool false) rfl (setRow_heap _ (w.heap.size + 2) _ _ _ _ HZ.out) Tryz.underlying26 rfl HCs.out rfl) rfl (by rw [HOn2.out]; exact HE.out)
theorem apply_f (p : UP) (k m : Nat) (T : ByteArray) (a b : Bool) (sq : Option Addr) (sn sc : Nat) (salt : List UInt8) (n : Int) (w : World) (hg : Gu w) (hU : UIn w p) (hr : p.d.hs.length ≤ 64 ∧ p.d.ks.length ≤ 64 ∧ p.d.cs.length ≤ 64) (hz : T.size ≤ 1048576) (hm : m < 18446744073709551616) (hk : k ≤ 255) (hs : ShaT.Bs w sq salt) (hsn : salt.length = sn) (hsc : sq = none → sc = 0) (hn0 : -9223372036854775808 ≤ n) (hn1 : n ≤ 9223372036854775807) :
  Calls Tryz.prog 10 #[p.agg,.agg #[.int .u8 (k : Int),.string T,.bool a,.bool b,.int .u64 (m : Int)],.slice sq sn sc,.int .i64 n] w (AnsUB p.at_ ((applyD p.d ⟨k,T.data.toList,a,b,m⟩ (recD T.data.toList salt n)).getD p.d) (applyD p.d ⟨k,T.data.toList,a,b,m⟩ (recD T.data.toList salt n)).isSome w) := by
 cases hR : rightR ⟨k,T.data.toList,a,b,m⟩ with
 | true => exact apply_good p k m T a b sq sn sc salt n w hg hU hr hz hm hs hsn hR _ (apply_chD _ _ _ hR)
 | false =>
   rw [show applyD p.d ⟨k,T.data.toList,a,b,m⟩ (recD T.data.toList salt n) = none from if_neg (by rw [hR]; exact Bool.false_ne_true)]
   exact apply_bad p k m T a b sq sn sc n w hg hU hz hm hR
theorem apply_c (p : UP) (k m : Nat) (T : ByteArray) (a b : Bool) (sq : Option Addr) (sn sc : Nat) (salt : List UInt8) (n : Int) (w : World) (hg : Gu w) (hU : UIn w p) (hr : RightU p.d) (hz : T.size ≤ 1048576) (hm : m < 18446744073709551616) (hk : k ≤ 255) (hs : ShaT.Bs w sq salt) (hsn : salt.length = sn) (hsc : sq = none → sc = 0) (hn0 : -9223372036854775808 ≤ n) (hn1 : n ≤ 9223372036854775807) :
  Calls Tryz.prog 10 #[p.agg,.agg #[.int .u8 (k : Int),.string T,.bool a,.bool b,.int .u64 (m : Int)],.slice sq sn sc,.int .i64 n] w (AnsUB p.at_ ((applyD p.d ⟨k,T.data.toList,a,b,m⟩ (recD T.data.toList salt n)).getD p.d) (applyD p.d ⟨k,T.data.toList,a,b,m⟩ (recD T.data.toList salt n)).isSome w) := apply_f p k m T a b sq sn sc salt n w hg hU ⟨hr.hl,hr.kl,hr.cl⟩ hz hm hk hs hsn hsc hn0 hn1
end Go.Proofs.YtpoinibckmbfcaaGreatDoor.UserM
