/-
  The walk of UserBoth.
-/
import Derived.Test.YtpoinibckmbfcaaGreatDoorPk49
namespace Go.Proofs.YtpoinibckmbfcaaGreatDoor.userBoth
open Go.RowKit Kit StrT RowG RuleT UserT UserR UserM RefUser UserL
open Go.Sort (grow)
set_option linter.unusedVariables false
set_option maxRecDepth 100000
def cutS (s : ByteArray) : ByteArray := if 40 < s.size then s.extract 0 40 else s
theorem cutS_size (s : ByteArray) : (cutS s).size ≤ 40 := by
 unfold cutS
 split
 · rw [ByteArray.size_extract]; omega
 · omega
set_option maxHeartbeats 16000000 in
theorem walk (q : Option Addr) (L : List RV) (n c : Nat) (on0 : Bool) (P : ByteArray) (w : World) (hn : L.length = n) (hnz : n ≤ 140737488351232) (h : Rs ruE w q L) (hL : ∀ v ∈ L,v.kind ≤ 255 ∧ v.mask < 18446744073709551616) (hP : P.size ≤ 140737488351232) (hg1 : NumL.Gd w) (hg2 : MacT.Mx w) (hg3 : ShaT.Tabs w) (hg4 : UserM.Tz w) :
  Calls Tryz.prog 6 #[.slice q n c,.bool on0,.string P] w fun e w' => e = .returned (.bool true) ∧ Below w.heap.size w w' := by
 have HG := Lib.hid (Gu.mk hg1 hg2 hg3 hg4)
 have HRt := Lib.hid (fit_right [117] L)
 have HSh := Lib.hid (fit_short [117] L)
 obtain ⟨F,hF⟩ : ∃ F,F = fitD [117] L := ⟨_,rfl⟩
 have CF := Lib.hid (fun W (hW : Below w.heap.size w W) => (show Calls Tryz.prog 9 #[.string ⟨#[117]⟩,.slice q n c] W (AnsU (fun _ => False) F W) from by rw [hF]; exact fit_any ⟨#[117]⟩ q n c L W (by decide) hn (by omega) (h.keep hW) hL))
 rw [← hF] at HRt HSh
 clear hF hn h hL hg1 hg2 hg3 hg4
 have HR2 := Lib.hid (show RightU { F with np := true,on := on0 } from { HRt.out with })
 have HS2 := Lib.hid (show Sh 140 { F with np := true,on := on0 } from { HSh.out with })
 have HTz := Lib.hid (text_len HR2.out HS2.out)
 obtain ⟨T,hT⟩ : ∃ T : ByteArray,T = ⟨(textD { F with np := true,on := on0 }).toArray⟩ := ⟨_,rfl⟩
 have CT := Lib.hid (fun N on np qh nh ch mm qk nk ck qc nc cc W (h : Gu W) (hU : UIn W ⟨N,on,np,qh,nh,ch,mm,qk,nk,ck,qc,nc,cc,{ F with np := true,on := on0 }⟩) => text_told h hU HR2.out (Nat.le_trans HTz.out (by decide)))
 rw [← hT] at CT
 have hTd : T.data.toList = textD { F with np := true,on := on0 } := by rw [hT]
 have CP := Lib.hid (fun W (h : Gu W) => par_some (T := T) h (by
  have h1 : T.data.toList.length = T.size := by simp
  have h2 := HTz.out
  rw [← hTd,h1] at h2
  omega) (u := { F with np := true,on := on0 }) (by rw [hTd]; exact parse_text ((right_iff _).2 HR2.out)))
 clear hT hTd
 have C0 := Lib.hid (fun W (h : Gu W) => shown_any W h)
 obtain ⟨X,hX⟩ : ∃ X,X = cutS P := ⟨_,rfl⟩
 have hXs : X.size ≤ 40 := by rw [hX]; exact cutS_size P
 have hmn : min (P.size : Int) 40 = ((min P.size 40 : Nat) : Int) := by omega
 have s1 : ∀ W,(Instr.slice 9 (.string P) none (some (.int .i64 ((min P.size 40 : Nat) : Int))) none).run Tryz.prog W = .ok (.string X) W := fun W => by
  have h := run_slice_string_h (P := Tryz.prog) W 9 P Tryz.underlying9 .i64 ((min P.size 40 : Nat) : Int) (by omega) (by omega)
  rw [h,hX]
  unfold cutS
  by_cases h40 : 40 < P.size
  · rw [if_pos h40,show ((min P.size 40 : Nat) : Int).toNat = 40 by omega]
  · rw [if_neg h40,show ((min P.size 40 : Nat) : Int).toNat = P.size by omega,ByteArray.extract_zero_size]
 generalize ((min P.size 40 : Nat) : Int) = mn at hmn s1
 clear hX
 have HB_w := Lib.hid (Below.refl w.heap.size w)
 go_enter Tryz.func6,Tryz.ntmps6
 go_wp2_with fail
 refine (C0.out _ (HG.out.keep HB_w.out)).mono ?_
 rintro e w1 ⟨rfl,hb⟩
 have HB_w1 := Lib.hid (HB_w.out.trans (hb.mono HB_w.out.size))
 clear HB_w hb
 go_wp2_with fail
 refine (CF.out _ HB_w1.out).mono ?_
 rintro e w2 ⟨⟨NF,onF,npF,qhF,nhF,chF,mmF,qkF,nkF,ckF,qcF,ncF,ccF,dF⟩,rfl,hi,hd,-,hb⟩
 obtain rfl : dF = F := hd
 dsimp only [UP.agg]
 have HB_w2 := Lib.hid (HB_w1.out.trans (hb.mono HB_w1.out.size))
 clear HB_w1 hb
 have HAt := Lib.hid (show ∀ j,UP.at_ ⟨NF,onF,npF,qhF,nhF,chF,mmF,qkF,nkF,ckF,qcF,ncF,ccF,dF⟩ j → j < w2.heap.size from fun j hj => hi.lt j hj)
 have HAg := Lib.hid (show w.heap.size ≤ w2.heap.size from HB_w2.out.size)
 obtain ⟨WF,hW⟩ : ∃ W,W = w2.alloc (.cells #[.string NF,.bool onF,.bool npF,.slice qhF nhF chF,.int .u64 mmF,.slice qkF nkF ckF,.slice qcF ncF ccF] 26) := ⟨_,rfl⟩
 obtain ⟨gF,hgz⟩ : ∃ k,k = w2.heap.size := ⟨_,rfl⟩
 have hu : UAt WF gF ⟨NF,onF,npF,qhF,nhF,chF,mmF,qkF,nkF,ckF,qcF,ncF,ccF,dF⟩ := by rw [hW,hgz]; exact UAt.new hi
 have hbn : Below w2.heap.size w2 WF := by rw [hW]; exact Kit.below1 _ _
 clear hi
 have HB_WF := Lib.hid (HB_w2.out.trans (hbn.mono HB_w2.out.size))
 clear HB_w2 hbn
 have HUF := Lib.hid hu
 clear hu
 rw [← hgz] at HAt HAg
 go_upto_region 3 with fail
 rw [← hW,← hgz]
 clear hW hgz
 have hq := HUF.out.h
 simp only [ucs] at hq
 have f2 := frozen_of_row _ _ 2 _ _ hq
 obtain ⟨c0,c1,c2,c3,c4,c5,c6⟩ := u_cells hq
 clear hq
 have hne : ∀ k,UP.at_ ⟨NF,onF,npF,qhF,nhF,chF,mmF,qkF,nkF,ckF,qcF,ncF,ccF,dF⟩ k → k ≠ gF := fun k hk => by have := HAt.out k hk; omega
 have HU3 := Lib.hid (UAt.put HUF.out ⟨NF,onF,true,qhF,nhF,chF,mmF,qkF,nkF,ckF,qcF,ncF,ccF,{ dF with np := true }⟩ 2 (.bool true) rfl { HUF.out.i with ep := rfl } hne)
 have HB3 := Lib.hid (HB_WF.out.setCell (p := ⟨gF,2,none⟩) HAg.out (.bool true))
 clear HUF HB_WF
 go_upto_region 4 with fail
 generalize World.setCell _ _ _ = w3 at HU3 HB3 ⊢
 clear c0 c1 c2 c3 c4 c5 c6 f2
 have hq := HU3.out.h
 simp only [ucs] at hq
 have f1 := frozen_of_row _ _ 1 _ _ hq
 obtain ⟨c0,c1,c2,c3,c4,c5,c6⟩ := u_cells hq
 clear hq
 have HUF_w4 := Lib.hid (UAt.put HU3.out ⟨NF,on0,true,qhF,nhF,chF,mmF,qkF,nkF,ckF,qcF,ncF,ccF,{ dF with np := true,on := on0 }⟩ 1 (.bool on0) rfl { HU3.out.i with eo := rfl } hne)
 have HB_w4 := Lib.hid (HB3.out.setCell (p := ⟨gF,1,none⟩) HAg.out (.bool on0))
 clear HU3 HB3 hne HAt
 go_upto_region 5 with fail
 generalize World.setCell _ _ _ = w4 at HUF_w4 HB_w4 ⊢
 clear c0 c1 c2 c3 c4 c5 c6 f1
 have hq := HUF_w4.out.h
 simp only [ucs] at hq
 obtain ⟨cF0,cF1,cF2,cF3,cF4,cF5,cF6⟩ := u_cells hq
 clear hq
 go_wp2_with fail
 refine (CT.out _ _ _ _ _ _ _ _ _ _ _ _ _ _ (HG.out.keep HB_w4.out) HUF_w4.out.i).mono ?_
 rintro e w5 ⟨rfl,hb⟩
 clear cF0 cF1 cF2 cF3 cF4 cF5 cF6
 have HUF_w5 := Lib.hid (HUF_w4.out.keep hb)
 clear HUF_w4
 have HB_w5 := Lib.hid (HB_w4.out.trans (hb.mono HB_w4.out.size))
 clear HB_w4 hb
 go_wp2_with fail
 refine (CP.out _ (HG.out.keep HB_w5.out)).mono ?_
 rintro e w6 ⟨NU,onU,npU,qhU,nhU,chU,mmU,qkU,nkU,ckU,qcU,ncU,ccU,rfl,hi,hb⟩
 have HUF_w6 := Lib.hid (HUF_w5.out.keep hb)
 clear HUF_w5
 have HB_w6 := Lib.hid (HB_w5.out.trans (hb.mono HB_w5.out.size))
 clear HB_w5 hb
 obtain ⟨WU,hW⟩ : ∃ W,W = w6.alloc (.cells #[.string NU,.bool onU,.bool npU,.slice qhU nhU chU,.int .u64 mmU,.slice qkU nkU ckU,.slice qcU ncU ccU] 26) := ⟨_,rfl⟩
 obtain ⟨gU,hgz⟩ : ∃ k,k = w6.heap.size := ⟨_,rfl⟩
 have hu : UAt WU gU ⟨NU,onU,npU,qhU,nhU,chU,mmU,qkU,nkU,ckU,qcU,ncU,ccU,{ dF with np := true,on := on0 }⟩ := by rw [hW,hgz]; exact UAt.new hi
 have hbn : Below w6.heap.size w6 WU := by rw [hW]; exact Kit.below1 _ _
 clear hi
 have HUF_WU := Lib.hid (HUF_w6.out.keep hbn)
 clear HUF_w6
 have HB_WU := Lib.hid (HB_w6.out.trans (hbn.mono HB_w6.out.size))
 clear HB_w6 hbn
 have HUU_WU := Lib.hid hu
 clear hu
 go_upto_region 6 with fail
 rw [← hW,← hgz]
 clear hW hgz
 have hq := HUU_WU.out.h
 simp only [ucs] at hq
 obtain ⟨cU0,cU1,cU2,cU3,cU4,cU5,cU6⟩ := u_cells hq
 clear hq
 have hq := HUF_WU.out.h
 simp only [ucs] at hq
 obtain ⟨cF0,cF1,cF2,cF3,cF4,cF5,cF6⟩ := u_cells hq
 clear hq
 go_wp2_with fail
 refine (same_told HUU_WU.out.i HUF_WU.out.i).mono ?_
 rintro e w7 ⟨rfl,hb⟩
 rw [decide_eq_true rfl]
 clear cU0 cU1 cU2 cU3 cU4 cU5 cU6
 clear cF0 cF1 cF2 cF3 cF4 cF5 cF6
 have HUF_w7 := Lib.hid (HUF_WU.out.keep hb)
 clear HUF_WU
 have HUU_w7 := Lib.hid (HUU_WU.out.keep hb)
 clear HUU_WU
 have HB_w7 := Lib.hid (HB_WU.out.trans (hb.mono HB_WU.out.size))
 clear HB_WU hb
 have CR := Lib.hid (fun dd os => Calls.regrown_of (right_told (HG.out.keep (HB_w7.out.trans ((below_regrown w7 dd os).mono HB_w7.out.size))) (HUF_w7.out.i.keep (below_regrown w7 dd os)) HR2.out HS2.out (by decide)))
 have CE := Lib.hid (fun dd os => Calls.regrown_of (show Calls Tryz.prog 19 #[.agg #[.string NF,.bool on0,.bool true,.slice qhF nhF chF,.int .u64 mmF,.slice qkF nkF ckF,.slice qcF ncF ccF],.string X] (grow (redrawn w7 dd) os) (fun e w' => e = .returned (.bool on0) ∧ Below (grow (redrawn w7 dd) os).heap.size (grow (redrawn w7 dd) os) w') from by
  have h := enter_c ⟨NF,on0,true,qhF,nhF,chF,mmF,qkF,nkF,ckF,qcF,ncF,ccF,{ dF with np := true,on := on0 }⟩ X _ (HG.out.keep (HB_w7.out.trans ((below_regrown w7 dd os).mono HB_w7.out.size))) (HUF_w7.out.i.keep (below_regrown w7 dd os)) HR2.out (by omega)
  rw [show enterD (UP.d ⟨NF,on0,true,qhF,nhF,chF,mmF,qkF,nkF,ckF,qcF,ncF,ccF,{ dF with np := true,on := on0 }⟩) X.data.toList = on0 by simp [enterD]] at h
  exact h))
 have PF := Lib.hid HUF_w7.out.h
 simp only [ucs] at PF
 have ho : (on0 == on0) = true := beq_self_eq_true _
 go_upto_region 7 with fail
 refine wp_region_quiet_below (by kernel_rfl) (by kernel_rfl) ?_
 skip
 repeat (any_goals (first
  | (refine wpQuiet_step (fun K hK => ?_); rw [if_pos (by rfl)]; (with_reducible refine quiet_load_rowU 26 (.tmp 8) rfl gF rfl 26 _ PF.out _ Tryz.underlying26 rfl (user_cs _ _ _ _ _ _ _) ?_); go_simp; refine hK _ ?_; clear hK K)
  | go_big_quiet_step (first
    | (go_at_call 15; with_reducible exact CR.out _ _)
    | (go_at_call 19; with_reducible exact CE.out _ _))))
 with_reducible refine wpQuiet_nil ?_
 intro _ hw'
 obtain ⟨⟨dq,osq⟩,hw''⟩ := hw'
 subst hw''
 have hb := HB_w7.out.trans ((below_regrown w7 dq osq).mono HB_w7.out.size)
 clear CR CE PF
 generalize grow (redrawn w7 dq) osq = w8 at hb ⊢
 go_wp2_with fail
 go_ret
 exact ⟨by simp,hb⟩
end Go.Proofs.YtpoinibckmbfcaaGreatDoor.userBoth
