/-
  Packed by program.
-/
import Derived.Test.YtpoinibckmbfcaaGreatDoorCards
import Derived.Test.YtpoinibckmbfcaaGreatDoorTie
import Derived.Deep.DeepHandedRow
import Derived.Stop.LaidErr
import Derived.ProofKit
import Derived.ShutString
import Derived.SliceStrings
import Derived.SizedLaws
import Derived.Deep.Strs
import Derived.Test.YtpoinibckmbfcaaGreatDoorRows
import Derived.ChangeArms
import Derived.OpenShut
import Derived.Test.YtpoinibckmbfcaaGreatDoorPk48
namespace Go.Proofs.YtpoinibckmbfcaaGreatDoor.RefUser
open Go.RowKit Kit StrT RowG RuleT UserT UserR TableMath Low ValT
open Go.Sort (grow)
set_option linter.unusedVariables false
set_option maxRecDepth 100000
structure SB (w : World) (x y : Array Value) (wr : World) : Prop where
 bel : Below w.heap.size w wr
 bx : wr.heap[w.heap.size]? = some (.cells x 26 (0,0))
 by_ : wr.heap[w.heap.size + 1]? = some (.cells y 26 (0,0))
theorem SB.lt {w wr : World} {x y : Array Value} (h : SB w x y wr) : w.heap.size + 1 < wr.heap.size := (Array.getElem?_eq_some_iff.1 h.by_).1
theorem SB.keep {w wr w' : World} {x y : Array Value} (h : SB w x y wr) (hb : Below wr.heap.size wr w') : SB w x y w' := by
 have hl := h.lt
 exact ⟨h.bel.trans (hb.mono h.bel.size),by rw [hb.block _ (by omega)]; exact h.bx,by rw [hb.block _ hl]; exact h.by_⟩
theorem SB.new (w : World) (x y : Array Value) : SB w x y ((w.alloc (.cells x 26)).alloc (.cells y 26)) := by
 have b1 := Kit.below1 w (.cells x 26)
 refine ⟨b1.alloc b1.size _,?_,?_⟩
 · rw [(Kit.below1 _ _).block _ (by simp)]
   exact heap_alloc_last w _
 · have := heap_alloc_last (w.alloc (.cells x 26)) (.cells y 26)
   simpa using this
theorem same_fields {u v : UV} : u = v ↔ u.name = v.name ∧ u.on = v.on ∧ u.np = v.np ∧ u.hs = v.hs ∧ u.cmds = v.cmds ∧ u.ks = v.ks ∧ u.cs = v.cs := by
 cases u
 cases v
 simp
theorem same_no {u v : UV} (h : u.name ≠ v.name ∨ u.on ≠ v.on ∨ u.np ≠ v.np ∨ u.hs ≠ v.hs ∨ u.cs ≠ v.cs ∨ u.cmds ≠ v.cmds ∨ u.ks ≠ v.ks) : decide (u = v) = false := by
 apply decide_eq_false
 rintro rfl
 rcases h with h | h | h | h | h | h | h <;> exact h rfl
set_option maxHeartbeats 16000000 in
theorem same_any (p q : UP) (w : World) (hp : UIn w p) (hq : UIn w q) :
  Calls Tryz.prog 12 #[p.agg,q.agg] w fun e w' => e = .returned (.bool (decide (p.d = q.d))) ∧ Below w.heap.size w w' := by
 obtain ⟨N,on,np,qh,nh,ch,mm,qk,nk,ck,qc,nc,cc,d⟩ := p
 obtain ⟨N2,on2,np2,qh2,nh2,ch2,mm2,qk2,nk2,ck2,qc2,nc2,cc2,d2⟩ := q
 have HP := Lib.hid hp
 have HQ := Lib.hid hq
 have hkf : nk ≤ 1048576 := hp.k.f
 have HS := Lib.hid (SB.new w #[.string N,.bool on,.bool np,.slice qh nh ch,.int .u64 mm,.slice qk nk ck,.slice qc nc cc] #[.string N2,.bool on2,.bool np2,.slice qh2 nh2 ch2,.int .u64 mm2,.slice qk2 nk2 ck2,.slice qc2 nc2 cc2])
 have CT := Lib.hid (fun (a b : Option Addr) (X Y : List (List UInt8)) (n m c1 c2 : Nat) (W : World) (h1 : RowIn strE W a n c1 X) (h2 : RowIn strE W b m c2 Y) => StrS.same_texts a b X Y n m c1 c2 W h1.l h2.l (rs_ss.1 h1.r) (rs_ss.1 h2.r) (by have := h1.f; omega))
 obtain ⟨D,hD⟩ : ∃ D,D = decide (d = d2) := ⟨_,rfl⟩
 have HD := Lib.hid hD
 show Calls Tryz.prog 12 #[.agg #[.string N,.bool on,.bool np,.slice qh nh ch,.int .u64 mm,.slice qk nk ck,.slice qc nc cc],.agg #[.string N2,.bool on2,.bool np2,.slice qh2 nh2 ch2,.int .u64 mm2,.slice qk2 nk2 ck2,.slice qc2 nc2 cc2]] w fun e w' => e = .returned (.bool (decide (d = d2))) ∧ Below w.heap.size w w'
 rw [← hD]
 obtain ⟨B1,hB1⟩ : ∃ B,B = decide (d.hs = d2.hs) := ⟨_,rfl⟩
 obtain ⟨B2,hB2⟩ : ∃ B,B = decide (d.cs = d2.cs) := ⟨_,rfl⟩
 have HB1 := Lib.hid hB1
 have HB2 := Lib.hid hB2
 clear hp hq hD hB1 hB2
 go_enter Tryz.func12,Tryz.ntmps12
 go_upto_region 1 with fail
 generalize (w.alloc _).alloc _ = w1 at HS ⊢
 obtain ⟨b0,b1,b2,b3,b4,b5,b6⟩ := u_cells HS.out.bx
 obtain ⟨x0,x1,x2,x3,x4,x5,x6⟩ := u_cells HS.out.by_
 go_wp2_with fail
 refine (CT.out qh qh2 d.hs d2.hs nh nh2 ch ch2 _ (HP.out.h.keep HS.out.bel) (HQ.out.h.keep HS.out.bel)).mono ?_
 rintro e w2 ⟨rfl,hb2⟩
 rw [← HB1.out]
 have HS2 := Lib.hid (HS.out.keep hb2)
 clear hb2 HS b0 b1 b2 b3 b4 b5 b6 x0 x1 x2 x3 x4 x5 x6
 obtain ⟨b0,b1,b2,b3,b4,b5,b6⟩ := u_cells HS2.out.bx
 obtain ⟨x0,x1,x2,x3,x4,x5,x6⟩ := u_cells HS2.out.by_
 go_wp2_with fail
 refine (CT.out qc qc2 d.cs d2.cs nc nc2 cc cc2 _ (HP.out.c.keep HS2.out.bel) (HQ.out.c.keep HS2.out.bel)).mono ?_
 rintro e w3 ⟨rfl,hb3⟩
 rw [← HB2.out]
 have HS3 := Lib.hid (HS2.out.keep hb3)
 clear hb3 HS2 CT b0 b1 b2 b3 b4 b5 b6 x0 x1 x2 x3 x4 x5 x6
 go_upto_region 3 with fail
 obtain ⟨b0,b1,b2,b3,b4,b5,b6⟩ := u_cells HS3.out.bx
 obtain ⟨x0,x1,x2,x3,x4,x5,x6⟩ := u_cells HS3.out.by_
 by_cases h1 : d.name = d2.name
 · obtain rfl : N = N2 := by
    have e1 : N.data.toList = d.name := HP.out.en
    have e2 : N2.data.toList = d2.name := HQ.out.en
    rw [RefRule.str_of (e1.trans h1),RefRule.str_of e2]
   have HO := Lib.hid (show on = d.on from HP.out.eo)
   have HO2 := Lib.hid (show on2 = d2.on from HQ.out.eo)
   by_cases h2 : on = on2
   · subst h2
     have o1 : (on != on) = false := bne_self_eq_false _
     have HM := Lib.hid (show np = d.np from HP.out.ep)
     have HM2 := Lib.hid (show np2 = d2.np from HQ.out.ep)
     by_cases h3 : np = np2
     · subst h3
       have o2 : (np != np) = false := bne_self_eq_false _
       rcases B1 with _ | _
       · have HF := Lib.hid (HD.out.trans (same_no (u := d) (v := d2) (Or.inr (Or.inr (Or.inr (Or.inl (of_decide_eq_false HB1.out.symm)))))))
         clear h1
         go_wp2_with fail
         go_ret
         exact ⟨ret_bool HF.out.symm,HS3.out.bel⟩
       · rcases B2 with _ | _
         · have HF := Lib.hid (HD.out.trans (same_no (u := d) (v := d2) (Or.inr (Or.inr (Or.inr (Or.inr (Or.inl (of_decide_eq_false HB2.out.symm))))))))
           clear h1
           go_wp2_with fail
           go_ret
           exact ⟨ret_bool HF.out.symm,HS3.out.bel⟩
         · have HC := Lib.hid (show mm = (d.cmds : Int) from HP.out.em)
           have HC2 := Lib.hid (show mm2 = (d2.cmds : Int) from HQ.out.em)
           by_cases h4 : mm = mm2
           · subst h4
             have m1 : (mm != mm) = false := bne_self_eq_false _
             by_cases h5 : nk = nk2
             · subst h5
               have n1 : ((nk : Int) != (nk : Int)) = false := bne_self_eq_false _
               have HE := Lib.hid (fun (hk : d.ks = d2.ks) => show decide (d = d2) = true from decide_eq_true (same_fields.2 ⟨h1,by rw [← HO.out,← HO2.out],by rw [← HM.out,← HM2.out],of_decide_eq_true HB1.out.symm,by have := HC.out; have := HC2.out; omega,hk,of_decide_eq_true HB2.out.symm⟩))
               have HKl := Lib.hid (show d.ks.length = nk from HP.out.k.l)
               have HKl2 := Lib.hid (show d2.ks.length = nk from HQ.out.k.l)
               clear h1
               go_wp2_with fail
               clear b0 b1 b2 b3 b4 b5 b6 x0 x1 x2 x3 x4 x5 x6
               go_loopw [7] (fun i wr => ∃ j : Nat,j ≤ nk ∧ i = .int .i64 j ∧ Hid (d.ks.take j = d2.ks.take j) ∧ Hid (Below w3.heap.size w3 wr)) (fun i _ => nk - (intOf i).toNat)
               case atStart => exact ⟨0,Nat.zero_le _,rfl,Lib.hid rfl,Lib.hid (Below.refl _ _)⟩
               case round =>
                obtain ⟨j,hj,rfl,HT,HB⟩ := hrel
                have HSr := Lib.hid (HS3.out.keep HB.out)
                obtain ⟨b0,b1,b2,b3,b4,b5,b6⟩ := u_cells HSr.out.bx
                obtain ⟨x0,x1,x2,x3,x4,x5,x6⟩ := u_cells HSr.out.by_
                by_cases hlt : j < nk
                · have d1 : decide ((j : Int) < (nk : Int)) = true := decide_eq_true (by omega)
                  have j0 : (0 : Int) ≤ (j : Int) := by omega
                  have j1 : (j : Int) < (nk : Int) := by omega
                  have hjl : j < d.ks.length := by rw [HKl.out]; exact hlt
                  have hjl2 : j < d2.ks.length := by rw [HKl2.out]; exact hlt
                  obtain ⟨bb,off,rfl,hbl,v0,v1,v2⟩ := glob_cells (HP.out.k.r.keep HSr.out.bel) j hjl
                  obtain ⟨bb2,off2,rfl,hbl2,y0,y1,y2⟩ := glob_cells (HQ.out.k.r.keep HSr.out.bel) j hjl2
                  have HTn := Lib.hid (fun (h : d.ks[j] = d2.ks[j]) => show d.ks.take (j + 1) = d2.ks.take (j + 1) by rw [List.take_succ_eq_append_getElem hjl,List.take_succ_eq_append_getElem hjl2,HT.out,h])
                  have HTx := Lib.hid (fun (h : ¬ d.ks[j] = d2.ks[j]) => HD.out.trans (same_no (u := d) (v := d2) (Or.inr (Or.inr (Or.inr (Or.inr (Or.inr (Or.inr fun e => h (by simp only [e])))))))))
                  obtain ⟨g1,hg1⟩ : ∃ x,x = d.ks[j] := ⟨_,rfl⟩
                  obtain ⟨g2,hg2⟩ : ∃ x,x = d2.ks[j] := ⟨_,rfl⟩
                  rw [← hg1] at v0 v1 v2
                  rw [← hg2] at y0 y1 y2
                  rw [← hg1,← hg2] at HTn HTx
                  clear hg1 hg2 hbl hbl2
                  obtain ⟨xp,xr,xw⟩ := g1
                  obtain ⟨yp,yr,yw⟩ := g2
                  simp only at v0 v1 v2 y0 y1 y2
                  by_cases hpe : xp = yp
                  · subst hpe
                    obtain ⟨X,hX⟩ : ∃ X : ByteArray,X = ⟨xp.toArray⟩ := ⟨_,rfl⟩
                    rw [← hX] at v0 y0
                    clear hX
                    by_cases hre : xr = yr ∧ xw = yw
                    · obtain ⟨rfl,rfl⟩ := hre
                      have HT2 := Lib.hid (HTn.out rfl)
                      clear HTn HTx
                      go_wp2_with fail
                      go_quiet (fail)
                      have hbq : Below wr.heap.size wr (wr.drewN nq) := ⟨rfl,rfl,rfl,Nat.le_refl _,fun _ _ => rfl⟩
                      have HBq := Lib.hid (HB.out.trans (hbq.mono HB.out.size))
                      clear hbq b0 b1 b2 b3 b4 b5 b6 x0 x1 x2 x3 x4 x5 x6 v0 v1 v2 y0 y1 y2 HSr
                      generalize wr.drewN nq = wq at HBq ⊢
                      go_wp2_with fail
                      go_roundw
                      case rel => exact ⟨j + 1,by omega,by go_num,HT2,HBq⟩
                      case measure => simp [intOf]; omega
                    · have HF := Lib.hid (HTx.out (by simpa using hre))
                      clear HTn HTx
                      cases xr <;> cases yr <;> cases xw <;> cases yw
                      all_goals first
                       | (exact absurd ⟨rfl,rfl⟩ hre)
                       | (clear hre
                          go_wp2_with fail
                          go_quiet (fail)
                          have hbq : Below wr.heap.size wr (wr.drewN nq) := ⟨rfl,rfl,rfl,Nat.le_refl _,fun _ _ => rfl⟩
                          have HBq := Lib.hid (HSr.out.bel.trans (hbq.mono HSr.out.bel.size))
                          clear hbq b0 b1 b2 b3 b4 b5 b6 x0 x1 x2 x3 x4 x5 x6 v0 v1 v2 y0 y1 y2 HSr HB
                          generalize wr.drewN nq = wq at HBq ⊢
                          go_wp2_with fail
                          go_ret
                          exact ⟨ret_bool HF.out.symm,HBq.out⟩)
                  · have hE : ((⟨xp.toArray⟩ : ByteArray).toList == (⟨yp.toArray⟩ : ByteArray).toList) = false := by rw [beq_texts]; exact decide_eq_false hpe
                    have HF := Lib.hid (HTx.out (by simp [hpe]))
                    obtain ⟨X,hX⟩ : ∃ X : ByteArray,X = ⟨xp.toArray⟩ := ⟨_,rfl⟩
                    obtain ⟨Y,hY⟩ : ∃ Y : ByteArray,Y = ⟨yp.toArray⟩ := ⟨_,rfl⟩
                    rw [← hX] at v0 hE
                    rw [← hY] at y0 hE
                    clear hX hY hpe HTn HTx
                    go_wp2_with fail
                    go_quiet (fail)
                    have hbq : Below wr.heap.size wr (wr.drewN nq) := ⟨rfl,rfl,rfl,Nat.le_refl _,fun _ _ => rfl⟩
                    have HBq := Lib.hid (HSr.out.bel.trans (hbq.mono HSr.out.bel.size))
                    clear hbq b0 b1 b2 b3 b4 b5 b6 x0 x1 x2 x3 x4 x5 x6 v0 v1 v2 y0 y1 y2 HSr HB
                    generalize wr.drewN nq = wq at HBq ⊢
                    go_wp2_with fail
                    go_ret
                    exact ⟨ret_bool HF.out.symm,HBq.out⟩
                · have d1 : decide ((j : Int) < (nk : Int)) = false := decide_eq_false (by omega)
                  have HF := Lib.hid (HD.out.trans (HE.out (by
                   have := HT.out
                   rwa [List.take_of_length_le (by rw [HKl.out]; omega),List.take_of_length_le (by rw [HKl2.out]; omega)] at this)))
                  go_wp2_with fail
                  go_ret
                  exact ⟨ret_bool HF.out.symm,HSr.out.bel⟩
             · have n1 : ((nk : Int) != (nk2 : Int)) = true := by rw [bne_iff_ne]; omega
               have HF := Lib.hid (HD.out.trans (same_no (u := d) (v := d2) (Or.inr (Or.inr (Or.inr (Or.inr (Or.inr (Or.inr fun e => h5 (by rw [← (show d.ks.length = nk from HP.out.k.l),← (show d2.ks.length = nk2 from HQ.out.k.l),e])))))))))
               clear h1 h5
               go_wp2_with fail
               go_ret
               exact ⟨ret_bool HF.out.symm,HS3.out.bel⟩
           · have m1 : (mm != mm2) = true := bne_iff_ne.2 h4
             have HF := Lib.hid (HD.out.trans (same_no (u := d) (v := d2) (Or.inr (Or.inr (Or.inr (Or.inr (Or.inr (Or.inl fun e => h4 (by rw [HC.out,HC2.out,e])))))))))
             clear h1
             go_wp2_with fail
             go_ret
             exact ⟨ret_bool HF.out.symm,HS3.out.bel⟩
     · have HF := Lib.hid (HD.out.trans (same_no (u := d) (v := d2) (Or.inr (Or.inr (Or.inl fun e => h3 (by rw [HM.out,HM2.out,e]))))))
       have o2 : (np != np2) = true := bne_iff_ne.2 h3
       clear h1
       go_wp2_with fail
       go_ret
       exact ⟨ret_bool HF.out.symm,HS3.out.bel⟩
   · have HF := Lib.hid (HD.out.trans (same_no (u := d) (v := d2) (Or.inr (Or.inl fun e => h2 (by rw [HO.out,HO2.out,e])))))
     have o1 : (on != on2) = true := bne_iff_ne.2 h2
     clear h1
     go_wp2_with fail
     go_ret
     exact ⟨ret_bool HF.out.symm,HS3.out.bel⟩
 · have hne : ¬ N.toList = N2.toList := by
    rw [ByteArray.toList_eq,ByteArray.toList_eq,show N.data.toList = d.name from HP.out.en,show N2.data.toList = d2.name from HQ.out.en]
    exact h1
   have HF := Lib.hid (HD.out.trans (same_no (u := d) (v := d2) (Or.inl h1)))
   clear h1
   go_wp2_with fail
   go_ret
   exact ⟨ret_bool HF.out.symm,HS3.out.bel⟩
end Go.Proofs.YtpoinibckmbfcaaGreatDoor.RefUser
namespace Go.Proofs.YtpoinibckmbfcaaGreatDoor.UserL
open Go.RowKit Kit StrT RowG RuleT UserT UserR UserM RefUser
open Go.Sort (grow)
set_option linter.unusedVariables false
set_option maxRecDepth 100000
structure UAt (w : World) (g : Nat) (p : UP) : Prop where
 h : w.heap[g]? = some (.cells (ucs p) 26 (0,0))
 i : UIn w p
theorem UAt.lt {w : World} {g : Nat} {p : UP} (h : UAt w g p) : g < w.heap.size := (Array.getElem?_eq_some_iff.1 h.h).1
theorem UAt.keep {w w' : World} {g : Nat} {p : UP} (h : UAt w g p) (hb : Below w.heap.size w w') : UAt w' g p := ⟨by rw [hb.block _ h.lt]; exact h.h,h.i.keep hb⟩
theorem UAt.new {w : World} {p : UP} (h : UIn w p) : UAt (w.alloc (.cells (ucs p) 26)) w.heap.size p := ⟨heap_alloc_last w _,h.keep (Kit.below1 _ _)⟩
def CApp (N : ByteArray) (on np : Bool) (qh : Option Addr) (nh ch : Nat) (mm : Int) (qk : Option Addr) (nk ck : Nat) (qc : Option Addr) (nc cc : Nat) (k : Int) (T : ByteArray) (a b : Bool) (m : Int) (sq : Option Addr) (sn sc : Nat) (n : Int) (w : World) (d : UV) (ok : Bool) : Prop :=
 Calls Tryz.prog 10 #[.agg #[.string N,.bool on,.bool np,.slice qh nh ch,.int .u64 mm,.slice qk nk ck,.slice qc nc cc],.agg #[.int .u8 k,.string T,.bool a,.bool b,.int .u64 m],.slice sq sn sc,.int .i64 n] w fun e w' =>
  ∃ (N2 : ByteArray) (on2 np2 : Bool) (qh2 : Option Addr) (nh2 ch2 : Nat) (mm2 : Int) (qk2 : Option Addr) (nk2 ck2 : Nat) (qc2 : Option Addr) (nc2 cc2 : Nat),e = .returned (.tuple #[.agg #[.string N2,.bool on2,.bool np2,.slice qh2 nh2 ch2,.int .u64 mm2,.slice qk2 nk2 ck2,.slice qc2 nc2 cc2],.bool ok]) ∧ UIn w' ⟨N2,on2,np2,qh2,nh2,ch2,mm2,qk2,nk2,ck2,qc2,nc2,cc2,d⟩ ∧ Below w.heap.size w w'
theorem app_of {N : ByteArray} {on np : Bool} {qh : Option Addr} {nh ch : Nat} {mm : Int} {qk : Option Addr} {nk ck : Nat} {qc : Option Addr} {nc cc : Nat} {d : UV} {k m : Nat} {T : ByteArray} {a b : Bool} {sq : Option Addr} {sn sc : Nat} {salt : List UInt8} {n : Int} {w : World} (hg : Gu w) (hU : UIn w ⟨N,on,np,qh,nh,ch,mm,qk,nk,ck,qc,nc,cc,d⟩) (hr : RightU d) (hz : T.size ≤ 1048576) (hm : m < 18446744073709551616) (hk : k ≤ 255) (hs : ShaT.Bs w sq salt) (hsn : salt.length = sn) (hsc : sq = none → sc = 0) (hn0 : -9223372036854775808 ≤ n) (hn1 : n ≤ 9223372036854775807) :
  CApp N on np qh nh ch mm qk nk ck qc nc cc (k : Int) T a b (m : Int) sq sn sc n w ((applyD d ⟨k,T.data.toList,a,b,m⟩ (recD T.data.toList salt n)).getD d) (applyD d ⟨k,T.data.toList,a,b,m⟩ (recD T.data.toList salt n)).isSome := by
 refine (apply_c ⟨N,on,np,qh,nh,ch,mm,qk,nk,ck,qc,nc,cc,d⟩ k m T a b sq sn sc salt n w hg hU hr hz hm hk hs hsn hsc hn0 hn1).mono ?_
 rintro e w' ⟨⟨N2,on2,np2,qh2,nh2,ch2,mm2,qk2,nk2,ck2,qc2,nc2,cc2,d2⟩,he,hi,hd,-,hb⟩
 have hd2 : d2 = _ := hd
 subst hd2
 exact ⟨N2,on2,np2,qh2,nh2,ch2,mm2,qk2,nk2,ck2,qc2,nc2,cc2,he,hi,hb⟩
def CUse (f : FuncId) (args : Array Value) (w : World) (d : UV) : Prop :=
 Calls Tryz.prog f args w fun e w' => ∃ (N2 : ByteArray) (on2 np2 : Bool) (qh2 : Option Addr) (nh2 ch2 : Nat) (mm2 : Int) (qk2 : Option Addr) (nk2 ck2 : Nat) (qc2 : Option Addr) (nc2 cc2 : Nat),e = .returned (.agg #[.string N2,.bool on2,.bool np2,.slice qh2 nh2 ch2,.int .u64 mm2,.slice qk2 nk2 ck2,.slice qc2 nc2 cc2]) ∧ UIn w' ⟨N2,on2,np2,qh2,nh2,ch2,mm2,qk2,nk2,ck2,qc2,nc2,cc2,d⟩ ∧ Below w.heap.size w w'
theorem use_of {f : FuncId} {args : Array Value} {w : World} {d : UV} {F : Nat → Prop} (h : Calls Tryz.prog f args w (AnsU F d w)) : CUse f args w d := by
 refine h.mono ?_
 rintro e w' ⟨⟨N2,on2,np2,qh2,nh2,ch2,mm2,qk2,nk2,ck2,qc2,nc2,cc2,d2⟩,he,hi,hd,-,hb⟩
 have hd2 : d2 = _ := hd
 subst hd2
 exact ⟨N2,on2,np2,qh2,nh2,ch2,mm2,qk2,nk2,ck2,qc2,nc2,cc2,he,hi,hb⟩
theorem new_of (N : ByteArray) {w : World} (hg : Gu w) : CUse 21 #[.string N] w (newU N.data.toList) := use_of (new_any N w trivial)
theorem build_b (k : Int) (w : World) : (Instr.build 29 #[(0,.int .u8 k)]).run Tryz.prog w = .ok (.agg #[.int .u8 k,.string ⟨#[]⟩,.bool false,.bool false,.int .u64 0]) w := run_build w 29 _ _ (by kernel_rfl)
theorem bx_keep {w w' : World} {g : Nat} {o : Obj} (h : w.heap[g]? = some o) (hb : Below w.heap.size w w') : w'.heap[g]? = some o := by rw [hb.block _ (Array.getElem?_eq_some_iff.1 h).1]; exact h
theorem bel_al {w w' : World} {o : Obj} (h : Below (w.alloc o).heap.size (w.alloc o) w') : Below w.heap.size w w' := (Kit.below1 w o).trans (h.mono (Kit.below1 w o).size)
theorem same_told {N : ByteArray} {on np : Bool} {qh : Option Addr} {nh ch : Nat} {mm : Int} {qk : Option Addr} {nk ck : Nat} {qc : Option Addr} {nc cc : Nat} {d : UV} {N2 : ByteArray} {on2 np2 : Bool} {qh2 : Option Addr} {nh2 ch2 : Nat} {mm2 : Int} {qk2 : Option Addr} {nk2 ck2 : Nat} {qc2 : Option Addr} {nc2 cc2 : Nat} {d2 : UV} {w : World} (h1 : UIn w ⟨N,on,np,qh,nh,ch,mm,qk,nk,ck,qc,nc,cc,d⟩) (h2 : UIn w ⟨N2,on2,np2,qh2,nh2,ch2,mm2,qk2,nk2,ck2,qc2,nc2,cc2,d2⟩) :
  Calls Tryz.prog 12 #[.agg #[.string N,.bool on,.bool np,.slice qh nh ch,.int .u64 mm,.slice qk nk ck,.slice qc nc cc],.agg #[.string N2,.bool on2,.bool np2,.slice qh2 nh2 ch2,.int .u64 mm2,.slice qk2 nk2 ck2,.slice qc2 nc2 cc2]] w fun e w' => e = .returned (.bool (decide (d = d2))) ∧ Below w.heap.size w w' :=
 same_any ⟨N,on,np,qh,nh,ch,mm,qk,nk,ck,qc,nc,cc,d⟩ ⟨N2,on2,np2,qh2,nh2,ch2,mm2,qk2,nk2,ck2,qc2,nc2,cc2,d2⟩ w h1 h2
theorem set_name {u : UV} {r : RV} {x : List UInt8} : (setU u r x).name = u.name := by
 unfold setU
 split <;> rfl
theorem apply_name {u : UV} {r : RV} {rec : Option (List UInt8)} : ((applyD u r rec).getD u).name = u.name := by
 cases h : applyD u r rec with
 | none => rfl
 | some v =>
   obtain ⟨-,-,x,rfl,-⟩ := apply_inv h
   exact set_name
theorem fit_name (name : List UInt8) (l : List RV) : (fitD name l).name = nameD name := by
 have go : ∀ (l : List RV) (u : UV),(l.foldl fitS u).name = u.name := by
  intro l
  induction l with
  | nil => exact fun _ => rfl
  | cons r l ih =>
    intro u
    rw [List.foldl_cons,ih]
    unfold fitS
    split
    · exact apply_name
    · rfl
 exact go _ _
theorem once_more {u : UV} {r : RV} {rec : Option (List UInt8)} : (applyD ((applyD u r rec).getD u) r rec).getD ((applyD u r rec).getD u) = (applyD u r rec).getD u ∧ (applyD ((applyD u r rec).getD u) r rec).isSome = (applyD u r rec).isSome := by
 cases h : applyD u r rec with
 | none =>
   rw [show (none : Option UV).getD u = u from rfl,h]
   exact ⟨rfl,rfl⟩
 | some v =>
   rw [show (some v).getD u = v from rfl,apply_twice h]
   exact ⟨rfl,rfl⟩
theorem few_right {u : UV} (h : RightU u) : fewB u = true := few_of h.hl h.kl h.cl
theorem quiet_load_rowU {P : Program} {w0 : World} {o : Oper} {a : Act} {K : Act → Prop} (ty : TypeId) (x : Operand) (ho : o.op = .load ty x)
    (g : Nat) (hx : a.eval x = .pointer (some ⟨g,0,none⟩)) (t : TypeId) (cs : Array Value) (hp : w0.heap[g]? = some (.cells cs t (0,0))) (d : TypeDesc)
    (hu : P.underlying ty = some d) (hd : (match d with | .struct _ | .array _ _ => true | _ => false) = true) (hi : (P.info? ty).map (·.size) = some cs.size)
    (h : K (a.put o.dst (.agg cs))) : o.quiet P a (fun w' => ∃ p : Regrown,w' = grow (redrawn w0 p.d) p.os) K := by
  refine ⟨_,?_,h⟩
  rintro _ ⟨p,rfl⟩
  unfold Oper.quietAt execOp
  have hlt := (Array.getElem?_eq_some_iff.1 hp).1
  simp only [ho,hx,Instr.loadAt,Instr.sureAddr,Sem.run_bind,Sem.run_pure,Result.andThen_ok,run_loadVar_row (grow (redrawn w0 p.d) p.os) g t ty _ (0,0) d (by rw [(below_regrown w0 p.d p.os).block g hlt]; exact hp) hu hd hi]
  exact ⟨rfl,rfl⟩
theorem UAt.put {w : World} {g : Nat} {p : UP} (h : UAt w g p) (p' : UP) (j : Nat) (v : Value) (hc : ucs p' = (ucs p).setIfInBounds j v) (hi : UIn w p') (hat : ∀ k,p'.at_ k → k ≠ g) : UAt (w.setCell ⟨g,j,none⟩ v) g p' :=
 ⟨by rw [hc]; exact heap_setCell_same _ _ j _ _ v h.h,hi.same (by simp) (fun k hk => heap_setCell_other _ _ _ _ (hat k hk))⟩
theorem right_told {N : ByteArray} {on np : Bool} {qh : Option Addr} {nh ch : Nat} {mm : Int} {qk : Option Addr} {nk ck : Nat} {qc : Option Addr} {nc cc : Nat} {d : UV} {w : World} (hg : Gu w) (hU : UIn w ⟨N,on,np,qh,nh,ch,mm,qk,nk,ck,qc,nc,cc,d⟩) (hr : RightU d) {B : Nat} (hs : Sh B d) (hB : B ≤ 1048576) :
  Calls Tryz.prog 15 #[.agg #[.string N,.bool on,.bool np,.slice qh nh ch,.int .u64 mm,.slice qk nk ck,.slice qc nc cc]] w fun e w' => e = .returned (.bool true) ∧ Below w.heap.size w w' := by
 have hnm : N.size ≤ 32 := by
  have h1 : N.data.toList = d.name := hU.en
  have h2 : N.data.toList.length = N.size := by simp
  rw [← h2,h1]
  exact hr.nl
 have e1 : d.hs.length = nh := hU.h.l
 have e2 : d.ks.length = nk := hU.k.l
 have e3 : d.cs.length = nc := hU.c.l
 have h1 := hr.hl
 have h2 := hr.kl
 have h3 := hr.cl
 have h := right_c ⟨N,on,np,qh,nh,ch,mm,qk,nk,ck,qc,nc,cc,d⟩ w hg hU (show N.size ≤ _ by omega) (fun x hx => Nat.le_trans (hs.h x hx) hB) (fun g hg => Nat.le_trans (hs.k g hg) (by omega)) (fun x hx => Nat.le_trans (hs.c x hx) (by omega)) ⟨(show nh ≤ 1024 by omega),(show nk ≤ 1024 by omega),(show nc ≤ 1024 by omega)⟩
 rw [show rightU (UP.d ⟨N,on,np,qh,nh,ch,mm,qk,nk,ck,qc,nc,cc,d⟩) = true from (right_iff d).2 hr] at h
 exact h
def CPar (T : ByteArray) (w : World) (d : UV) (ok : Bool) : Prop :=
 Calls Tryz.prog 13 #[.string T] w fun e w' => ∃ (N2 : ByteArray) (on2 np2 : Bool) (qh2 : Option Addr) (nh2 ch2 : Nat) (mm2 : Int) (qk2 : Option Addr) (nk2 ck2 : Nat) (qc2 : Option Addr) (nc2 cc2 : Nat),e = .returned (.tuple #[.agg #[.string N2,.bool on2,.bool np2,.slice qh2 nh2 ch2,.int .u64 mm2,.slice qk2 nk2 ck2,.slice qc2 nc2 cc2],.bool ok]) ∧ UIn w' ⟨N2,on2,np2,qh2,nh2,ch2,mm2,qk2,nk2,ck2,qc2,nc2,cc2,d⟩ ∧ Below w.heap.size w w'
theorem par_of {T : ByteArray} {w : World} (hg : Gu w) (hz : T.size ≤ 65536) : CPar T w ((parseD T.data.toList).getD (newU [])) (parseD T.data.toList).isSome := by
 refine (parse_c T w hg hz).mono ?_
 rintro e w' ⟨⟨N2,on2,np2,qh2,nh2,ch2,mm2,qk2,nk2,ck2,qc2,nc2,cc2,d2⟩,he,hi,hd,-,hb⟩
 have hd2 : d2 = _ := hd
 subst hd2
 exact ⟨N2,on2,np2,qh2,nh2,ch2,mm2,qk2,nk2,ck2,qc2,nc2,cc2,he,hi,hb⟩
theorem par_some {T : ByteArray} {w : World} {u : UV} (hg : Gu w) (hz : T.size ≤ 65536) (h : parseD T.data.toList = some u) : CPar T w u true := by
 have := par_of hg hz
 rw [h] at this
 exact this
theorem par_none {T : ByteArray} {w : World} (hg : Gu w) (hz : T.size ≤ 65536) (h : parseD T.data.toList = none) : CPar T w (newU []) false := by
 have := par_of hg hz
 rw [h] at this
 exact this
def bob0 : UV := newU [98,111,98]
def bob1 : UV := { bob0 with on := true }
def bob2 : UV := { bob1 with ks := [⟨[97,42],true,true⟩] }
def bob3 : UV := { bob2 with cmds := 1 }
theorem bob_steps : applyD bob0 ⟨1,[],false,false,0⟩ (recD [] [] 1) = some bob1 ∧ applyD bob1 ⟨10,[97,42],true,true,0⟩ (recD [97,42] [] 1) = some bob2 ∧ applyD bob2 ⟨8,[],false,false,1⟩ (recD [] [] 1) = some bob3 := by
 refine ⟨apply_ok (by decide +kernel) (by decide) (by decide +kernel),apply_ok (by decide +kernel) (by decide) (by decide +kernel),apply_ok (by decide +kernel) (by decide) (by decide +kernel)⟩
theorem bob_right : RightU bob0 ∧ RightU bob1 ∧ RightU bob2 ∧ RightU bob3 := ⟨(right_iff _).1 (by decide +kernel),(right_iff _).1 (by decide +kernel),(right_iff _).1 (by decide +kernel),(right_iff _).1 (by decide +kernel)⟩
theorem bob_text : textD bob3 = [117,115,101,114,32,98,111,98,32,111,110,32,126,97,42,32,45,64,97,108,108,32,43,103,101,116] := by decide +kernel
theorem bs_nil {w : World} : ShaT.Bs w none [] := fun h => absurd h (by simp)
theorem text_told {N : ByteArray} {on np : Bool} {qh : Option Addr} {nh ch : Nat} {mm : Int} {qk : Option Addr} {nk ck : Nat} {qc : Option Addr} {nc cc : Nat} {d : UV} {w : World} (hg : Gu w) (hU : UIn w ⟨N,on,np,qh,nh,ch,mm,qk,nk,ck,qc,nc,cc,d⟩) (hr : RightU d) (hz : (textD d).length ≤ 1048576) :
  Calls Tryz.prog 17 #[.agg #[.string N,.bool on,.bool np,.slice qh nh ch,.int .u64 mm,.slice qk nk ck,.slice qc nc cc]] w fun e w' => e = .returned (.string ⟨(textD d).toArray⟩) ∧ Below w.heap.size w w' :=
 text_c ⟨N,on,np,qh,nh,ch,mm,qk,nk,ck,qc,nc,cc,d⟩ w hg hU hr hz
set_option maxHeartbeats 4000000 in
theorem shown_any (w : World) (hg : Gu w) : Calls Tryz.prog 7 #[] w fun e w' => e = .returned (.bool true) ∧ Below w.heap.size w w' := by
 have HG := Lib.hid hg
 have HB_w := Lib.hid (Below.refl w.heap.size w)
 have CN := Lib.hid (fun W (h : Gu W) => new_of ⟨#[98,111,98]⟩ h)
 have bb := build_b
 have bm := RefRule.build_km
 have br := RefRule.build_ksrw
 have CA := Lib.hid (fun N on np qh nh ch mm qk nk ck qc nc cc W (h : Gu W) (hU : UIn W ⟨N,on,np,qh,nh,ch,mm,qk,nk,ck,qc,nc,cc,bob0⟩) => (show CApp N on np qh nh ch mm qk nk ck qc nc cc 1 ⟨#[]⟩ false false 0 none 0 0 1 W bob1 true from by
  have h := app_of (k := 1) (m := 0) (T := ⟨#[]⟩) (a := false) (b := false) (sq := none) (sn := 0) (sc := 0) (salt := []) (n := 1) h hU bob_right.1 (by decide) (by decide) (by decide) bs_nil rfl (fun _ => rfl) (by decide) (by decide)
  rw [show (⟨#[]⟩ : ByteArray).data.toList = [] from rfl,bob_steps.1] at h
  exact h))
 have CB := Lib.hid (fun N on np qh nh ch mm qk nk ck qc nc cc W (h : Gu W) (hU : UIn W ⟨N,on,np,qh,nh,ch,mm,qk,nk,ck,qc,nc,cc,bob1⟩) => (show CApp N on np qh nh ch mm qk nk ck qc nc cc 10 ⟨#[97,42]⟩ true true 0 none 0 0 1 W bob2 true from by
  have h := app_of (k := 10) (m := 0) (T := ⟨#[97,42]⟩) (a := true) (b := true) (sq := none) (sn := 0) (sc := 0) (salt := []) (n := 1) h hU bob_right.2.1 (by decide) (by decide) (by decide) bs_nil rfl (fun _ => rfl) (by decide) (by decide)
  rw [show (⟨#[97,42]⟩ : ByteArray).data.toList = [97,42] from rfl,bob_steps.2.1] at h
  exact h))
 have CC := Lib.hid (fun N on np qh nh ch mm qk nk ck qc nc cc W (h : Gu W) (hU : UIn W ⟨N,on,np,qh,nh,ch,mm,qk,nk,ck,qc,nc,cc,bob2⟩) => (show CApp N on np qh nh ch mm qk nk ck qc nc cc 8 ⟨#[]⟩ false false 1 none 0 0 1 W bob3 true from by
  have h := app_of (k := 8) (m := 1) (T := ⟨#[]⟩) (a := false) (b := false) (sq := none) (sn := 0) (sc := 0) (salt := []) (n := 1) h hU bob_right.2.2.1 (by decide) (by decide) (by decide) bs_nil rfl (fun _ => rfl) (by decide) (by decide)
  rw [show (⟨#[]⟩ : ByteArray).data.toList = [] from rfl,bob_steps.2.2] at h
  exact h))
 have CT := Lib.hid (fun N on np qh nh ch mm qk nk ck qc nc cc W (h : Gu W) (hU : UIn W ⟨N,on,np,qh,nh,ch,mm,qk,nk,ck,qc,nc,cc,bob3⟩) => text_told h hU bob_right.2.2.2 (by rw [bob_text]; decide))
 rw [bob_text] at CT
 clear hg
 go_enter Tryz.func7,Tryz.ntmps7
 go_wp2_with fail
 refine (CN.out _ (HG.out.keep HB_w.out)).mono ?_
 rintro e w1 ⟨N1,on1,np1,qh1,nh1,ch1,mm1,qk1,nk1,ck1,qc1,nc1,cc1,rfl,hi,hb⟩
 have HB_w1 := Lib.hid (HB_w.out.trans (hb.mono HB_w.out.size))
 clear HB_w hb
 obtain ⟨W1,hW⟩ : ∃ W,W = w1.alloc (.cells #[.string N1,.bool on1,.bool np1,.slice qh1 nh1 ch1,.int .u64 mm1,.slice qk1 nk1 ck1,.slice qc1 nc1 cc1] 26) := ⟨_,rfl⟩
 obtain ⟨g1,hgz⟩ : ∃ k,k = w1.heap.size := ⟨_,rfl⟩
 have hu : UAt W1 g1 ⟨N1,on1,np1,qh1,nh1,ch1,mm1,qk1,nk1,ck1,qc1,nc1,cc1,bob0⟩ := by rw [hW,hgz]; exact UAt.new hi
 have hbn : Below w1.heap.size w1 W1 := by rw [hW]; exact Kit.below1 _ _
 clear hi
 have HB_W1 := Lib.hid (HB_w1.out.trans (hbn.mono HB_w1.out.size))
 clear HB_w1 hbn
 have HU1_W1 := Lib.hid hu
 clear hu
 go_upto_region 2 with fail
 rw [← hW,← hgz]
 clear hW hgz
 have hq := HU1_W1.out.h
 simp only [ucs] at hq
 obtain ⟨c10,c11,c12,c13,c14,c15,c16⟩ := u_cells hq
 clear hq
 go_wp2_with fail
 refine (CA.out _ _ _ _ _ _ _ _ _ _ _ _ _ _ (HG.out.keep HB_W1.out) HU1_W1.out.i).mono ?_
 rintro e w2 ⟨N2,on2,np2,qh2,nh2,ch2,mm2,qk2,nk2,ck2,qc2,nc2,cc2,rfl,hi,hb⟩
 have HU1_w2 := Lib.hid (HU1_W1.out.keep hb)
 clear HU1_W1
 have HB_w2 := Lib.hid (HB_W1.out.trans (hb.mono HB_W1.out.size))
 clear HB_W1 hb
 clear c10 c11 c12 c13 c14 c15 c16
 obtain ⟨W2,hW⟩ : ∃ W,W = w2.alloc (.cells #[.string N2,.bool on2,.bool np2,.slice qh2 nh2 ch2,.int .u64 mm2,.slice qk2 nk2 ck2,.slice qc2 nc2 cc2] 26) := ⟨_,rfl⟩
 obtain ⟨g2,hgz⟩ : ∃ k,k = w2.heap.size := ⟨_,rfl⟩
 have hu : UAt W2 g2 ⟨N2,on2,np2,qh2,nh2,ch2,mm2,qk2,nk2,ck2,qc2,nc2,cc2,bob1⟩ := by rw [hW,hgz]; exact UAt.new hi
 have hbn : Below w2.heap.size w2 W2 := by rw [hW]; exact Kit.below1 _ _
 clear hi
 have HU1_W2 := Lib.hid (HU1_w2.out.keep hbn)
 clear HU1_w2
 have HB_W2 := Lib.hid (HB_w2.out.trans (hbn.mono HB_w2.out.size))
 clear HB_w2 hbn
 have HU2_W2 := Lib.hid hu
 clear hu
 go_upto_region 3 with fail
 rw [← hW,← hgz]
 clear hW hgz
 have hq := HU2_W2.out.h
 simp only [ucs] at hq
 obtain ⟨c20,c21,c22,c23,c24,c25,c26⟩ := u_cells hq
 clear hq
 go_wp2_with fail
 refine (CB.out _ _ _ _ _ _ _ _ _ _ _ _ _ _ (HG.out.keep HB_W2.out) HU2_W2.out.i).mono ?_
 rintro e w3 ⟨N3,on3,np3,qh3,nh3,ch3,mm3,qk3,nk3,ck3,qc3,nc3,cc3,rfl,hi,hb⟩
 have HU1_w3 := Lib.hid (HU1_W2.out.keep hb)
 clear HU1_W2
 have HU2_w3 := Lib.hid (HU2_W2.out.keep hb)
 clear HU2_W2
 have HB_w3 := Lib.hid (HB_W2.out.trans (hb.mono HB_W2.out.size))
 clear HB_W2 hb
 clear c20 c21 c22 c23 c24 c25 c26
 obtain ⟨W3,hW⟩ : ∃ W,W = w3.alloc (.cells #[.string N3,.bool on3,.bool np3,.slice qh3 nh3 ch3,.int .u64 mm3,.slice qk3 nk3 ck3,.slice qc3 nc3 cc3] 26) := ⟨_,rfl⟩
 obtain ⟨g3,hgz⟩ : ∃ k,k = w3.heap.size := ⟨_,rfl⟩
 have hu : UAt W3 g3 ⟨N3,on3,np3,qh3,nh3,ch3,mm3,qk3,nk3,ck3,qc3,nc3,cc3,bob2⟩ := by rw [hW,hgz]; exact UAt.new hi
 have hbn : Below w3.heap.size w3 W3 := by rw [hW]; exact Kit.below1 _ _
 clear hi
 have HU1_W3 := Lib.hid (HU1_w3.out.keep hbn)
 clear HU1_w3
 have HU2_W3 := Lib.hid (HU2_w3.out.keep hbn)
 clear HU2_w3
 have HB_W3 := Lib.hid (HB_w3.out.trans (hbn.mono HB_w3.out.size))
 clear HB_w3 hbn
 have HU3_W3 := Lib.hid hu
 clear hu
 go_upto_region 4 with fail
 rw [← hW,← hgz]
 clear hW hgz
 have hq := HU3_W3.out.h
 simp only [ucs] at hq
 obtain ⟨c30,c31,c32,c33,c34,c35,c36⟩ := u_cells hq
 clear hq
 go_wp2_with fail
 refine (CC.out _ _ _ _ _ _ _ _ _ _ _ _ _ _ (HG.out.keep HB_W3.out) HU3_W3.out.i).mono ?_
 rintro e w4 ⟨N4,on4,np4,qh4,nh4,ch4,mm4,qk4,nk4,ck4,qc4,nc4,cc4,rfl,hi,hb⟩
 have HU1_w4 := Lib.hid (HU1_W3.out.keep hb)
 clear HU1_W3
 have HU2_w4 := Lib.hid (HU2_W3.out.keep hb)
 clear HU2_W3
 have HU3_w4 := Lib.hid (HU3_W3.out.keep hb)
 clear HU3_W3
 have HB_w4 := Lib.hid (HB_W3.out.trans (hb.mono HB_W3.out.size))
 clear HB_W3 hb
 clear c30 c31 c32 c33 c34 c35 c36
 obtain ⟨W4,hW⟩ : ∃ W,W = w4.alloc (.cells #[.string N4,.bool on4,.bool np4,.slice qh4 nh4 ch4,.int .u64 mm4,.slice qk4 nk4 ck4,.slice qc4 nc4 cc4] 26) := ⟨_,rfl⟩
 obtain ⟨g4,hgz⟩ : ∃ k,k = w4.heap.size := ⟨_,rfl⟩
 have hu : UAt W4 g4 ⟨N4,on4,np4,qh4,nh4,ch4,mm4,qk4,nk4,ck4,qc4,nc4,cc4,bob3⟩ := by rw [hW,hgz]; exact UAt.new hi
 have hbn : Below w4.heap.size w4 W4 := by rw [hW]; exact Kit.below1 _ _
 clear hi
 have HU1_W4 := Lib.hid (HU1_w4.out.keep hbn)
 clear HU1_w4
 have HU2_W4 := Lib.hid (HU2_w4.out.keep hbn)
 clear HU2_w4
 have HU3_W4 := Lib.hid (HU3_w4.out.keep hbn)
 clear HU3_w4
 have HB_W4 := Lib.hid (HB_w4.out.trans (hbn.mono HB_w4.out.size))
 clear HB_w4 hbn
 have HU4_W4 := Lib.hid hu
 clear hu
 go_upto_region 5 with fail
 rw [← hW,← hgz]
 clear hW hgz
 have hq := HU4_W4.out.h
 simp only [ucs] at hq
 obtain ⟨c40,c41,c42,c43,c44,c45,c46⟩ := u_cells hq
 clear hq
 go_wp2_with fail
 refine (CT.out _ _ _ _ _ _ _ _ _ _ _ _ _ _ (HG.out.keep HB_W4.out) HU4_W4.out.i).mono ?_
 rintro e w5 ⟨rfl,hb⟩
 go_wp2_with fail
 go_ret
 exact ⟨rfl,HB_W4.out.trans (hb.mono HB_W4.out.size)⟩
end Go.Proofs.YtpoinibckmbfcaaGreatDoor.UserL
namespace Go.Proofs.YtpoinibckmbfcaaGreatDoor.Wit
open Go
theorem own : ownKnob Tryz.prog.godebug = none := by kernel_rfl
theorem laidOut : laidOutB Tryz.prog = true := by kernel_rfl
noncomputable def low : Nat := (World.holding Tryz.prog default ⟨#[],#[],[]⟩).heap.size
noncomputable def laidWorld (os : Os) : World :=
 let w0 := World.holding Tryz.prog os ⟨#[.cells #[.string ⟨#[118,97,108,117,101,32,111,117,116,32,111,102,32,114,97,110,103,101]⟩] 210,.cells #[.string ⟨#[105,110,118,97,108,105,100,32,115,121,110,116,97,120]⟩] 210],#[],[]⟩
 { w0 with heap := (((((((((w0.heap.modify 9 fun | .cells _ t frozen => .cells #[.int .u8 0,.int .u8 1,.int .u8 28,.int .u8 2,.int .u8 29,.int .u8 14,.int .u8 24,.int .u8 3,.int .u8 30,.int .u8 22,.int .u8 20,.int .u8 15,.int .u8 25,.int .u8 17,.int .u8 4,.int .u8 8,.int .u8 31,.int .u8 27,.int .u8 13,.int .u8 23,.int .u8 21,.int .u8 19,.int .u8 16,.int .u8 7,.int .u8 26,.int .u8 12,.int .u8 18,.int .u8 6,.int .u8 11,.int .u8 5,.int .u8 10,.int .u8 9] t frozen | o => o).modify 0 fun | .cells _ t frozen => .cells #[.int .u8 0,.int .u8 1,.int .u8 56,.int .u8 2,.int .u8 57,.int .u8 49,.int .u8 28,.int .u8 3,.int .u8 61,.int .u8 58,.int .u8 42,.int .u8 50,.int .u8 38,.int .u8 29,.int .u8 17,.int .u8 4,.int .u8 62,.int .u8 47,.int .u8 59,.int .u8 36,.int .u8 45,.int .u8 43,.int .u8 51,.int .u8 22,.int .u8 53,.int .u8 39,.int .u8 33,.int .u8 30,.int .u8 24,.int .u8 18,.int .u8 12,.int .u8 5,.int .u8 63,.int .u8 55,.int .u8 48,.int .u8 27,.int .u8 60,.int .u8 41,.int .u8 37,.int .u8 16,.int .u8 46,.int .u8 35,.int .u8 44,.int .u8 21,.int .u8 52,.int .u8 32,.int .u8 23,.int .u8 11,.int .u8 54,.int .u8 26,.int .u8 40,.int .u8 15,.int .u8 34,.int .u8 20,.int .u8 31,.int .u8 10,.int .u8 25,.int .u8 14,.int .u8 19,.int .u8 9,.int .u8 13,.int .u8 8,.int .u8 7,.int .u8 6] t frozen | o => o).modify 8 fun | .cells _ t frozen => .cells #[.int .u64 1,.int .u64 10,.int .u64 100,.int .u64 1000,.int .u64 10000,.int .u64 100000,.int .u64 1000000,.int .u64 10000000,.int .u64 100000000,.int .u64 1000000000,.int .u64 10000000000,.int .u64 100000000000,.int .u64 1000000000000,.int .u64 10000000000000,.int .u64 100000000000000,.int .u64 1000000000000000,.int .u64 10000000000000000,.int .u64 100000000000000000,.int .u64 1000000000000000000,.int .u64 10000000000000000000] t frozen | o => o).modify 2 fun | .cells _ t frozen => .cells #[.int .u32 1779033703,.int .u32 3144134277,.int .u32 1013904242,.int .u32 2773480762,.int .u32 1359893119,.int .u32 2600822924,.int .u32 528734635,.int .u32 1541459225] t frozen | o => o).modify 5 fun | .cells _ t frozen => .cells #[.int .u32 1116352408,.int .u32 1899447441,.int .u32 3049323471,.int .u32 3921009573,.int .u32 961987163,.int .u32 1508970993,.int .u32 2453635748,.int .u32 2870763221,.int .u32 3624381080,.int .u32 310598401,.int .u32 607225278,.int .u32 1426881987,.int .u32 1925078388,.int .u32 2162078206,.int .u32 2614888103,.int .u32 3248222580,.int .u32 3835390401,.int .u32 4022224774,.int .u32 264347078,.int .u32 604807628,.int .u32 770255983,.int .u32 1249150122,.int .u32 1555081692,.int .u32 1996064986,.int .u32 2554220882,.int .u32 2821834349,.int .u32 2952996808,.int .u32 3210313671,.int .u32 3336571891,.int .u32 3584528711,.int .u32 113926993,.int .u32 338241895,.int .u32 666307205,.int .u32 773529912,.int .u32 1294757372,.int .u32 1396182291,.int .u32 1695183700,.int .u32 1986661051,.int .u32 2177026350,.int .u32 2456956037,.int .u32 2730485921,.int .u32 2820302411,.int .u32 3259730800,.int .u32 3345764771,.int .u32 3516065817,.int .u32 3600352804,.int .u32 4094571909,.int .u32 275423344,.int .u32 430227734,.int .u32 506948616,.int .u32 659060556,.int .u32 883997877,.int .u32 958139571,.int .u32 1322822218,.int .u32 1537002063,.int .u32 1747873779,.int .u32 1955562222,.int .u32 2024104815,.int .u32 2227730452,.int .u32 2361852424,.int .u32 2428436474,.int .u32 2756734187,.int .u32 3204031479,.int .u32 3329325298] t frozen | o => o).modify 4 fun | .cells _ t frozen => .cells #[.int .u8 128,.int .u8 191,.int .u8 160,.int .u8 191,.int .u8 128,.int .u8 159,.int .u8 144,.int .u8 191,.int .u8 128,.int .u8 143,.int .u8 0,.int .u8 0,.int .u8 0,.int .u8 0,.int .u8 0,.int .u8 0,.int .u8 0,.int .u8 0,.int .u8 0,.int .u8 0,.int .u8 0,.int .u8 0,.int .u8 0,.int .u8 0,.int .u8 0,.int .u8 0,.int .u8 0,.int .u8 0,.int .u8 0,.int .u8 0,.int .u8 0,.int .u8 0] t frozen | o => o).modify 7 fun | .cells _ t frozen => .cells #[.iface 208 (.pointer (some ⟨low + 0,0,none⟩))] t frozen | o => o).modify 6 fun | .cells _ t frozen => .cells #[.iface 208 (.pointer (some ⟨low + 1,0,none⟩))] t frozen | o => o).modify 3 fun | .cells _ t frozen => .cells ((Go.Pinned.utf8FirstZ.map fun (n : Nat) => Value.int .u8 n).toArray) t frozen | o => o) }
end Go.Proofs.YtpoinibckmbfcaaGreatDoor.Wit
namespace Go.Proofs.YtpoinibckmbfcaaGreatDoor.ShaT
open Go.RowKit Kit ShaMath
open Go.ChangeShapes Go.WideShapes
set_option linter.unusedVariables false
set_option maxRecDepth 100000
theorem tb_of_var {P : Program} {W : World} {name : String} {g n : Nat} {k : IntKind} {f : Nat → Nat} {cs : Array Value} (hg : P.globalNamed name = some g) (h : W.var? P name = some cs) (he : cs = row k n f) : Tb W g k n f := by
 unfold World.var? at h
 rw [hg] at h
 simp only [Option.bind_some] at h
 split at h
 · rename_i c t fr hh
   injection h with h
   subst h
   subst he
   exact ⟨t,fr,hh⟩
 · cases h
end Go.Proofs.YtpoinibckmbfcaaGreatDoor.ShaT
namespace Go.Proofs.YtpoinibckmbfcaaGreatDoor.RulT
open Go.RowKit Kit StrT RowG RuleT UserT UserR
open Go.ChangeShapes Go.WideShapes
set_option linter.unusedVariables false
set_option maxRecDepth 100000
section
variable {H : Type} {enc : TypeId × Value → H} {W : World} {base : Nat} {v : Value} {d : DataW H} {p : List MemPlace}
def RowRead {α : Type} (D : α → DataW H) (L : List α) (d : DataW H) : Prop := (d = .nil ∧ L = []) ∨ ∃ sp,d = .slice (L.map D) sp
theorem list_of {α : Type} {n : Nat} {R : Nat → α → Prop} (h : ∀ i,i < n → ∃ a,R i a) : ∃ L : List α,L.length = n ∧ ∀ i (hi : i < L.length),R i L[i] := by
 induction n with
 | zero => exact ⟨[],rfl,fun i hi => absurd hi (by simp)⟩
 | succ n ih =>
   obtain ⟨L,hL,hR⟩ := ih (fun i hi => h i (by omega))
   obtain ⟨a,ha⟩ := h n (by omega)
   refine ⟨L ++ [a],by simp [hL],fun i hi => ?_⟩
   rcases Nat.lt_or_ge i L.length with hlt | hge
   · rw [List.getElem_append_left hlt]
     exact hR i hlt
   · rw [List.length_append,List.length_singleton] at hi
     obtain rfl : i = L.length := by omega
     rw [List.getElem_append_right (Nat.le_refl _)]
     simp only [Nat.sub_self,List.getElem_singleton]
     rw [hL]
     exact ha
theorem read_rows {α : Type} {K : α → Prop} (E : Enc α) (hc : Tryz.prog.cellsOf E.ty = E.sz) (D : α → DataW H)
    (hone : ∀ fuel cs x,DataW.trod enc Tryz.prog W 0 (fun _ => true) true fuel E.ty cs = some x → ∃ a : α,cs = E.enc a ∧ x.1 = D a ∧ K a)
    {fuel : Nat} {cs : List Value} {x : DataW H × List MemPlace} (hf : DataW.trod enc Tryz.prog W 0 (fun _ => true) true fuel E.slt cs = some x) :
    ∃ (q : Option Addr) (L : List α) (cap : Nat),cs = [.slice q L.length cap] ∧ Rs E W q L ∧ L.length ≤ cap ∧ cap ≤ 9223372036854775807 ∧ (q = none → cap = 0) ∧ (∀ a ∈ L,K a) ∧ RowRead D L x.1 := by
  rcases DataW.trod_slice E.und hf with ⟨rfl,rfl⟩ | ⟨a,len,cap,elems,rest,n,_,rfl,rfl,hb,hl,hm,hlen,hel,hsp,hns⟩
  · exact ⟨none,[],0,rfl,Rs.nil _ _ _,by simp,by omega,fun _ => rfl,(fun a ha => by cases ha),Or.inl ⟨rfl,rfl⟩⟩
  · have hex : ∀ i,i < len → ∃ r : α,W.cells? 0 (a.add (i * E.sz)) E.sz = some (E.enc r) ∧ (∃ y,elems[i]? = some y ∧ y.1 = D r) ∧ K r := by
     intro i hi
     have h1 := hel i hi
     have h2 : elems[i]? = some (elems[i]'(by omega)) := List.getElem?_eq_getElem (by omega)
     rw [h2,Option.bind_eq_some_iff] at h1
     obtain ⟨cs',h3,h4⟩ := h1
     obtain ⟨r,rfl,hr,hk⟩ := hone _ _ _ h4
     rw [hc] at h3
     exact ⟨r,h3,⟨_,h2,hr⟩,hk⟩
    obtain ⟨L,hL,hR⟩ := list_of hex
    subst hL
    refine ⟨some a,L,cap,rfl,fun h0 => ?_,hl,by unfold maxLen at hm; omega,(fun h => by cases h),fun b hb => ?_,Or.inr ⟨rest.map (·.1),?_⟩⟩
    · have hat : ∀ i (hi : i < L.length) d,d < E.sz → W.cell? ((a.add (i * E.sz)).add d) = (E.enc L[i])[d]? := fun i hi d hd => (World.cells?_some (hR i hi).1).2.2 d hd
      have h00 := hat 0 h0 0 E.pos
      have hlen0 : 0 < (E.enc L[0]).length := by rw [E.len]; exact E.pos
      rw [List.getElem?_eq_getElem hlen0] at h00
      obtain ⟨ab,ao,spot⟩ := a
      have hspot : spot = none := by simpa [Addr.add] using World.cell?_spot h00
      subst hspot
      refine ⟨ab,ao,rfl,?_,fun j hj => ?_⟩
      · have := Go.block_lt_of_cell h00
        simpa [Addr.add] using this
      · have hd : j % E.sz < E.sz := Nat.mod_lt _ E.pos
        have hi : j / E.sz < L.length := (Nat.div_lt_iff_lt_mul E.pos).2 hj
        have h1 := hat (j / E.sz) hi (j % E.sz) hd
        rw [Addr.add_lit,Addr.add_lit,← flat_at E L _ hi _ hd,Nat.add_assoc] at h1
        rwa [show j / E.sz * E.sz + j % E.sz = j by rw [Nat.mul_comm]; exact Nat.div_add_mod j E.sz] at h1
    · obtain ⟨i,hi,rfl⟩ := List.getElem_of_mem hb
      exact (hR i hi).2.2
    · show DataW.slice (elems.map (·.1)) (rest.map (·.1)) = _
      congr 1
      apply List.ext_getElem?
      intro i
      rw [List.getElem?_map,List.getElem?_map]
      rcases Nat.lt_or_ge i L.length with hi | hi
      · obtain ⟨y,h1,h2⟩ := (hR i hi).2.1
        rw [h1,List.getElem?_eq_getElem hi]
        simp [h2]
      · rw [List.getElem?_eq_none (by omega),List.getElem?_eq_none hi]
        rfl
theorem c_rule : Tryz.prog.cellsOf 29 = 5 := by kernel_rfl
theorem c_str : Tryz.prog.cellsOf 9 = 1 := by kernel_rfl
theorem c_u8 : Tryz.prog.cellsOf 5 = 1 := by kernel_rfl
theorem c_u64 : Tryz.prog.cellsOf 23 = 1 := by kernel_rfl
theorem c_bool : Tryz.prog.cellsOf 4 = 1 := by kernel_rfl
def ruD (a : RV) : DataW H := .agg [.lit (.int .u8 (a.kind : Int)),.lit (.string a.s),.lit (.bool a.r),.lit (.bool a.w),.lit (.int .u64 (a.mask : Int))]
theorem bytes_back (s : ByteArray) : (⟨s.data.toList.toArray⟩ : ByteArray) = s := by cases s; simp
theorem five_list {α : Type} {l : List α} (h : l.length = 5) : ∃ a b c d e,l = [a,b,c,d,e] := by
 match l,h with
 | [a,b,c,d,e],_ => exact ⟨a,b,c,d,e,rfl⟩
theorem okWide_struct {P : Program} {t : TypeId} {fs : Array Field} (hu : P.underlying t = some (.struct fs)) (h : Value.okWide P W .any base t v) : ∃ cs,v = .agg cs ∧ cs.size = P.cellsOf t := by
 unfold Value.okWide at h
 rw [hu] at h
 obtain ⟨cs,e,h1,_⟩ := h
 exact ⟨cs,e,h1⟩
def InR (a : RV) : Prop := a.kind ≤ 255 ∧ a.mask < 18446744073709551616
theorem one_rule (fuel : Nat) (cs : List Value) (x : DataW H × List MemPlace) (hf : DataW.trod enc Tryz.prog W 0 (fun _ => true) true fuel ruE.ty cs = some x) : ∃ a : RV,cs = ruE.enc a ∧ x.1 = ruD a ∧ InR a := by
 obtain ⟨xs,m,-,hx,hcl,hl,hel⟩ := DataW.trod_struct Tryz.underlying29 hf
 rw [c_rule] at hcl
 obtain ⟨v0,v1,v2,v3,v4,rfl⟩ := five_list hcl
 match xs,hl with
 | [y0,y1,y2,y3,y4],_ =>
   have e0 := hel 0 _ rfl
   have e1 := hel 1 _ rfl
   have e2 := hel 2 _ rfl
   have e3 := hel 3 _ rfl
   have e4 := hel 4 _ rfl
   simp only [List.getElem_toArray,List.getElem_cons_zero,List.getElem_cons_succ,c_u8,c_str,c_bool,c_u64] at e0 e1 e2 e3 e4
   simp at e0 e1 e2 e3 e4
   obtain ⟨k,h0,rfl,hw0⟩ := DataW.trod_int Tryz.underlying5 e0
   obtain ⟨S,h1,rfl,-⟩ := DataW.trod_string Tryz.underlying9 e1
   obtain ⟨b,h2,rfl⟩ := DataW.trod_bool Tryz.underlying4 e2
   obtain ⟨c,h3,rfl⟩ := DataW.trod_bool Tryz.underlying4 e3
   obtain ⟨g,h4,rfl,hw4⟩ := DataW.trod_int Tryz.underlying23 e4
   simp at h0 h1 h2 h3 h4
   subst h0 h1 h2 h3 h4
   obtain ⟨hk0,hk1⟩ := bounds_u8 hw0
   obtain ⟨hm0,hm1⟩ := bounds_u64 hw4
   have ek : ((k.toNat : Nat) : Int) = k := Int.toNat_of_nonneg hk0
   have em : ((g.toNat : Nat) : Int) = g := Int.toNat_of_nonneg hm0
   refine ⟨⟨k.toNat,S.data.toList,b,c,g.toNat⟩,?_,?_,?_,?_⟩
   · show _ = [Value.int .u8 ((k.toNat : Nat) : Int),Value.string ⟨S.data.toList.toArray⟩,Value.bool b,Value.bool c,Value.int .u64 ((g.toNat : Nat) : Int)]
     rw [bytes_back,ek,em]
   · rw [hx]
     show DataW.agg _ = DataW.agg [.lit (.int .u8 ((k.toNat : Nat) : Int)),.lit (.string S.data.toList),.lit (.bool b),.lit (.bool c),.lit (.int .u64 ((g.toNat : Nat) : Int))]
     rw [ek,em]
     rfl
   · show k.toNat ≤ 255
     omega
   · show g.toNat < 18446744073709551616
     omega
theorem open_rules (hval : Value.okWide Tryz.prog W .any base 27 v) (h : DataW.Trod enc Tryz.prog W 0 (fun _ => true) true 27 v d p) :
  ∃ (a : Option Addr) (L : List RV) (cap : Nat),v = .slice a L.length cap ∧ Rs ruE W a L ∧ L.length ≤ cap ∧ cap ≤ 9223372036854775807 ∧ (a = none → cap = 0) ∧ (∀ x ∈ L,x.kind ≤ 255 ∧ x.mask < 18446744073709551616) ∧ RowRead ruD L d := by
 obtain ⟨a1,len,cap,rfl⟩ := okWide_slice Tryz.underlying27 hval
 obtain ⟨fuel,hf⟩ := h
 obtain ⟨a,l,c,hcs,h1,h2,h3,h4,h5,h6⟩ := read_rows ruE c_rule ruD one_rule hf
 simp [Value.cells] at hcs
 obtain ⟨rfl,rfl,rfl⟩ := hcs
 exact ⟨_,l,_,rfl,h1,h2,h3,h4,h5,h6⟩
theorem open_rule (hval : Value.okWide Tryz.prog W .any base 29 v) (h : DataW.Trod enc Tryz.prog W 0 (fun _ => true) true 29 v d p) :
  ∃ (k : Nat) (S : ByteArray) (x y : Bool) (m : Nat),v = .agg #[.int .u8 (k : Int),.string S,.bool x,.bool y,.int .u64 (m : Int)] ∧ k ≤ 255 ∧ m < 18446744073709551616 ∧ d = ruD ⟨k,S.data.toList,x,y,m⟩ := by
 obtain ⟨cs,rfl,hcs⟩ := okWide_struct Tryz.underlying29 hval
 obtain ⟨fuel,hf⟩ := h
 obtain ⟨r,h0,h1,h2,h3⟩ := one_rule fuel _ _ hf
 refine ⟨r.kind,⟨r.s.toArray⟩,r.r,r.w,r.mask,?_,h2,h3,?_⟩
 · have e : cs.toList = ruE.enc r := h0
   rw [← Array.toArray_toList (xs := cs),e]
   rfl
 · rw [show d = ruD r from h1]
theorem size_rules {ts : List TypeId} {ds : List (DataW H)} (h : (DataW.weightsEach Tryz.prog ts ds).all (· ≤ reachBytes) = true) {L : List RV} {dd : DataW H} (j : Nat) (ht : ts[j]? = some 27) (hd : ds[j]? = some dd) (hr : RowRead ruD L dd) : L.length ≤ 140737488351232 := by
 rcases hr with ⟨-,rfl⟩ | ⟨sp,rfl⟩
 · simp
 · have h1 := sized_slice h (j := j) ht hd Tryz.underlying27
   rw [show Tryz.prog.bytesOf 29 = 40 by kernel_rfl,List.length_map] at h1
   have e3 : reachBytes = 140737488351232 := by decide
   omega
end
theorem part_le {H : Type} {d : DataW H} : ∀ {l : List (DataW H)},d ∈ l → Rows.uptoBulk d ≤ Rows.uptoBulkAll l
  | x :: r,h => by
    rw [Rows.uptoBulkAll]
    rcases List.mem_cons.1 h with rfl | h
    · omega
    · have := part_le (l := r) h
      omega
theorem bulk_rules {H : Type} : ∀ (L : List RV),(L.map (·.s)).flatten.length + L.length ≤ Rows.uptoBulkAll (L.map (ruD (H := H)))
  | [] => by simp [Rows.uptoBulkAll]
  | x :: L => by
    have ih := bulk_rules (H := H) L
    rw [List.map_cons,List.map_cons,Rows.uptoBulkAll]
    unfold ruD at ih ⊢
    simp [Rows.uptoBulk,Rows.uptoBulkAll] at ih ⊢
    omega
theorem upto_rules {H : Type} {ds : List (DataW H)} (hk : Rows.uptoSmall H ds = true) {L : List RV} {d : DataW H} (j : Nat) (hd : ds[j]? = some d) (h : RowRead ruD L d) : L.length ≤ 1048576 := by
 have h1 : Rows.uptoBulkAll ds ≤ 1048576 := of_decide_eq_true hk
 have h2 := part_le (List.mem_of_getElem? hd)
 rcases h with ⟨-,rfl⟩ | ⟨sp,rfl⟩
 · simp
 · have := bulk_rules (H := H) L
   rw [Rows.uptoBulk] at h2
   omega
theorem upto_rule {H : Type} {ds : List (DataW H)} (hk : Rows.uptoSmall H ds = true) {k m : Nat} {S : ByteArray} {x y : Bool} {dd : DataW H} (j : Nat) (hd : ds[j]? = some dd) (h : dd = ruD ⟨k,S.data.toList,x,y,m⟩) : S.size ≤ 1048576 := by
 subst h
 have h1 : Rows.uptoBulkAll ds ≤ 1048576 := of_decide_eq_true hk
 have h2 := part_le (List.mem_of_getElem? hd)
 have ea : S.data.toList.length = S.size := by simp
 unfold ruD at h2
 simp [Rows.uptoBulk,Rows.uptoBulkAll] at h2
 omega
end Go.Proofs.YtpoinibckmbfcaaGreatDoor.RulT
