/-
  The walk of UserOnce.
-/
import Derived.Test.YtpoinibckmbfcaaGreatDoorPk49
namespace Go.Proofs.YtpoinibckmbfcaaGreatDoor.userOnce
open Go.RowKit Kit StrT RowG RuleT UserT UserR UserM RefUser UserL
open Go.Sort (grow)
set_option linter.unusedVariables false
set_option maxRecDepth 100000
set_option maxHeartbeats 16000000 in
theorem walk (q : Option Addr) (L : List RV) (n c : Nat) (k m : Nat) (T : ByteArray) (a b : Bool) (w : World) (hn : L.length = n) (hnz : n ≤ 1048576) (h : Rs ruE w q L) (hL : ∀ v ∈ L,v.kind ≤ 255 ∧ v.mask < 18446744073709551616) (hz : T.size ≤ 1048576) (hm : m < 18446744073709551616) (hk : k ≤ 255) (hg1 : NumL.Gd w) (hg2 : MacT.Mx w) (hg3 : ShaT.Tabs w) (hg4 : UserM.Tz w) :
  Calls Tryz.prog 5 #[.slice q n c,.agg #[.int .u8 (k : Int),.string T,.bool a,.bool b,.int .u64 (m : Int)]] w fun e w' => e = .returned (.bool true) ∧ Below w.heap.size w w' := by
 have HG := Lib.hid (Gu.mk hg1 hg2 hg3 hg4)
 have HRt := Lib.hid (fit_right [117] L)
 have HNm := Lib.hid (show (fitD [117] L).name = [117] from (fit_name [117] L).trans (by decide))
 obtain ⟨F,hF⟩ : ∃ F,F = fitD [117] L := ⟨_,rfl⟩
 have CF := Lib.hid (fun W (hW : Below w.heap.size w W) => (show CUse 9 #[.string ⟨#[117]⟩,.slice q n c] W F from by rw [hF]; exact use_of (fit_any ⟨#[117]⟩ q n c L W (by decide) hn (by omega) (h.keep hW) hL)))
 rw [← hF] at HRt HNm
 clear hF hn h hL hg1 hg2 hg3 hg4
 have HFw := Lib.hid (few_right HRt.out)
 have HOn := Lib.hid (once_more (u := F) (r := ⟨k,T.data.toList,a,b,m⟩) (rec := recD T.data.toList [1] 1))
 have HAr := Lib.hid (right_getD (u := F) (r := ⟨k,T.data.toList,a,b,m⟩) (p := T.data.toList) (s := [1]) (n := 1) HRt.out)
 have HSt := Lib.hid (show (applyD F ⟨k,T.data.toList,a,b,m⟩ (recD T.data.toList [1] 1)).isSome = false → (applyD F ⟨k,T.data.toList,a,b,m⟩ (recD T.data.toList [1] 1)).getD F = F from fun h => by
  cases ho : applyD F ⟨k,T.data.toList,a,b,m⟩ (recD T.data.toList [1] 1) with
  | none => rfl
  | some v => rw [ho] at h; cases h)
 have CA0 := Lib.hid (fun N on np qh nh ch mm qk nk ck qc nc cc d g W (h : Gu W) (hU : UIn W ⟨N,on,np,qh,nh,ch,mm,qk,nk,ck,qc,nc,cc,d⟩) (hr : RightU d) (hs : ShaT.Bs W (some ⟨g,0,none⟩) [1]) => app_of (k := k) (m := m) (T := T) (a := a) (b := b) (sq := some ⟨g,0,none⟩) (sn := 1) (sc := 1) (salt := [1]) (n := 1) h hU hr hz hm hk hs rfl (fun h => by cases h) (by decide) (by decide))
 generalize hA : (applyD F ⟨k,T.data.toList,a,b,m⟩ (recD T.data.toList [1] 1)).getD F = A at HOn HAr HSt
 generalize hok : (applyD F ⟨k,T.data.toList,a,b,m⟩ (recD T.data.toList [1] 1)).isSome = ok at HOn HSt
 have CA := Lib.hid (fun N on np qh nh ch mm qk nk ck qc nc cc g W h hU hs => (show CApp N on np qh nh ch mm qk nk ck qc nc cc (k : Int) T a b (m : Int) (some ⟨g,0,none⟩) 1 1 1 W A ok from by
  have h := CA0.out N on np qh nh ch mm qk nk ck qc nc cc F g W h hU HRt.out hs
  rw [hA,hok] at h
  exact h))
 have CB := Lib.hid (fun N on np qh nh ch mm qk nk ck qc nc cc g W h hU hs => (show CApp N on np qh nh ch mm qk nk ck qc nc cc (k : Int) T a b (m : Int) (some ⟨g,0,none⟩) 1 1 1 W A ok from by
  have h := CA0.out N on np qh nh ch mm qk nk ck qc nc cc A g W h hU HAr.out hs
  rw [HOn.out.1,HOn.out.2] at h
  exact h))
 clear CA0 HOn HAr hA hok hz hm hk
 have CR := Lib.hid (fun N on np qh nh ch mm qk nk ck qc nc cc W (h : Gu W) (hU : UIn W ⟨N,on,np,qh,nh,ch,mm,qk,nk,ck,qc,nc,cc,F⟩) => (show CApp N on np qh nh ch mm qk nk ck qc nc cc 14 ⟨#[]⟩ false false 0 none 0 0 1 W (newU [117]) true from by
  have h := app_of (k := 14) (m := 0) (T := ⟨#[]⟩) (a := false) (b := false) (sq := none) (sn := 0) (sc := 0) (salt := []) (n := 1) h hU HRt.out (by decide) (by decide) (by decide) bs_nil rfl (fun _ => rfl) (by decide) (by decide)
  rw [show (⟨#[]⟩ : ByteArray).data.toList = [] from rfl,apply_ok (by decide +kernel) (by decide) (few_of (Nat.zero_le _) (Nat.zero_le _) (Nat.zero_le _))] at h
  rw [← HNm.out]
  exact h))
 have HF3 := Lib.hid (show RightU { F with np := true,hs := [] } from right_set (r := ⟨3,[],false,false,0⟩) (x := []) HRt.out (by decide +kernel) (few_sub HFw.out (Nat.zero_le _) (Nat.le_refl _) (Nat.le_refl _)) (fun h => absurd h (by decide)))
 have CP := Lib.hid (fun N on np qh nh ch mm qk nk ck qc nc cc W (h : Gu W) (hU : UIn W ⟨N,on,np,qh,nh,ch,mm,qk,nk,ck,qc,nc,cc,F⟩) => (show CApp N on np qh nh ch mm qk nk ck qc nc cc 3 ⟨#[]⟩ false false 0 none 0 0 1 W { F with np := true,hs := [] } true from by
  have h := app_of (k := 3) (m := 0) (T := ⟨#[]⟩) (a := false) (b := false) (sq := none) (sn := 0) (sc := 0) (salt := []) (n := 1) h hU HRt.out (by decide) (by decide) (by decide) bs_nil rfl (fun _ => rfl) (by decide) (by decide)
  rw [show (⟨#[]⟩ : ByteArray).data.toList = [] from rfl,apply_ok (by decide +kernel) (by decide) (few_sub HFw.out (Nat.zero_le _) (Nat.le_refl _) (Nat.le_refl _))] at h
  exact h))
 have CQ := Lib.hid (fun N on np qh nh ch mm qk nk ck qc nc cc W (h : Gu W) (hU : UIn W ⟨N,on,np,qh,nh,ch,mm,qk,nk,ck,qc,nc,cc,{ F with np := true,hs := [] }⟩) => (show CApp N on np qh nh ch mm qk nk ck qc nc cc 4 ⟨#[]⟩ false false 0 none 0 0 1 W { F with np := false,hs := [] } true from by
  have h := app_of (k := 4) (m := 0) (T := ⟨#[]⟩) (a := false) (b := false) (sq := none) (sn := 0) (sc := 0) (salt := []) (n := 1) h hU HF3.out (by decide) (by decide) (by decide) bs_nil rfl (fun _ => rfl) (by decide) (by decide)
  rw [show (⟨#[]⟩ : ByteArray).data.toList = [] from rfl,apply_ok (by decide +kernel) (by decide) (few_sub HFw.out (Nat.zero_le _) (Nat.le_refl _) (Nat.le_refl _))] at h
  exact h))
 have CN := Lib.hid (fun W (h : Gu W) => new_of ⟨#[117]⟩ h)
 unfold CUse at CN
 have C0 := Lib.hid (fun W (h : Gu W) => shown_any W h)
 have bb := build_b
 clear HFw HF3
 obtain ⟨W0,hW0⟩ : ∃ W0,W0 = w.alloc (.cells #[.int .u8 (k : Int),.string T,.bool a,.bool b,.int .u64 (m : Int)] 29) := ⟨_,rfl⟩
 have HX_W0 := Lib.hid (show W0.heap[w.heap.size]? = some (.cells #[.int .u8 (k : Int),.string T,.bool a,.bool b,.int .u64 (m : Int)] 29 (0,0)) by rw [hW0]; exact heap_alloc_last w _)
 have HB_W0 := Lib.hid (show Below w.heap.size w W0 by rw [hW0]; exact Kit.below1 w _)
 go_enter Tryz.func5,Tryz.ntmps5
 go_upto_region 1 with fail
 rw [← hW0]
 clear hW0
 go_wp2_with fail
 refine (C0.out _ (HG.out.keep HB_W0.out)).mono ?_
 rintro e w1 ⟨rfl,hb⟩
 have HX_w1 := Lib.hid (bx_keep HX_W0.out hb)
 clear HX_W0
 have HB_w1 := Lib.hid (HB_W0.out.trans (hb.mono HB_W0.out.size))
 clear HB_W0 hb
 go_wp2_with fail
 refine (CF.out _ HB_w1.out).mono ?_
 rintro e w2 ⟨NF,onF,npF,qhF,nhF,chF,mmF,qkF,nkF,ckF,qcF,ncF,ccF,rfl,hi,hb⟩
 have HX_w2 := Lib.hid (bx_keep HX_w1.out hb)
 clear HX_w1
 have HB_w2 := Lib.hid (HB_w1.out.trans (hb.mono HB_w1.out.size))
 clear HB_w1 hb
 obtain ⟨WF,hW⟩ : ∃ W,W = w2.alloc (.cells #[.string NF,.bool onF,.bool npF,.slice qhF nhF chF,.int .u64 mmF,.slice qkF nkF ckF,.slice qcF ncF ccF] 26) := ⟨_,rfl⟩
 obtain ⟨gF,hgz⟩ : ∃ k,k = w2.heap.size := ⟨_,rfl⟩
 have hu : UAt WF gF ⟨NF,onF,npF,qhF,nhF,chF,mmF,qkF,nkF,ckF,qcF,ncF,ccF,F⟩ := by rw [hW,hgz]; exact UAt.new hi
 have hbn : Below w2.heap.size w2 WF := by rw [hW]; exact Kit.below1 _ _
 clear hi
 have HX_WF := Lib.hid (bx_keep HX_w2.out hbn)
 clear HX_w2
 have HB_WF := Lib.hid (HB_w2.out.trans (hbn.mono HB_w2.out.size))
 clear HB_w2 hbn
 have HUF_WF := Lib.hid hu
 clear hu
 go_upto_region 3 with fail
 rw [← hW,← hgz]
 clear hW hgz
 have hq := HUF_WF.out.h
 simp only [ucs] at hq
 obtain ⟨cF0,cF1,cF2,cF3,cF4,cF5,cF6⟩ := u_cells hq
 clear hq
 obtain ⟨r0,r1,r2,r3,r4⟩ := RefUser.box_cells HX_WF.out
 go_wp2_with fail
 refine (CA.out _ _ _ _ _ _ _ _ _ _ _ _ _ _ _ (HG.out.keep (HB_WF.out.alloc HB_WF.out.size _)) (HUF_WF.out.i.keep (Kit.below1 _ _)) (MacT.lit1_bs _ 1 1 rfl)).mono ?_
 rintro e wA ⟨NA,onA,npA,qhA,nhA,chA,mmA,qkA,nkA,ckA,qcA,ncA,ccA,rfl,hi,hb⟩
 replace hb := bel_al hb
 clear cF0 cF1 cF2 cF3 cF4 cF5 cF6
 clear r0 r1 r2 r3 r4
 have HUF_wA := Lib.hid (HUF_WF.out.keep hb)
 clear HUF_WF
 have HX_wA := Lib.hid (bx_keep HX_WF.out hb)
 clear HX_WF
 have HB_wA := Lib.hid (HB_WF.out.trans (hb.mono HB_WF.out.size))
 clear HB_WF hb
 obtain ⟨WA,hW⟩ : ∃ W,W = wA.alloc (.cells #[.string NA,.bool onA,.bool npA,.slice qhA nhA chA,.int .u64 mmA,.slice qkA nkA ckA,.slice qcA ncA ccA] 26) := ⟨_,rfl⟩
 obtain ⟨gA,hgz⟩ : ∃ k,k = wA.heap.size := ⟨_,rfl⟩
 have hu : UAt WA gA ⟨NA,onA,npA,qhA,nhA,chA,mmA,qkA,nkA,ckA,qcA,ncA,ccA,A⟩ := by rw [hW,hgz]; exact UAt.new hi
 have hbn : Below wA.heap.size wA WA := by rw [hW]; exact Kit.below1 _ _
 clear hi
 have HUF_WA := Lib.hid (HUF_wA.out.keep hbn)
 clear HUF_wA
 have HX_WA := Lib.hid (bx_keep HX_wA.out hbn)
 clear HX_wA
 have HB_WA := Lib.hid (HB_wA.out.trans (hbn.mono HB_wA.out.size))
 clear HB_wA hbn
 have HUA_WA := Lib.hid hu
 clear hu
 go_upto_region 4 with fail
 rw [← hW,← hgz]
 clear hW hgz
 have hq := HUA_WA.out.h
 simp only [ucs] at hq
 obtain ⟨cA0,cA1,cA2,cA3,cA4,cA5,cA6⟩ := u_cells hq
 clear hq
 obtain ⟨r0,r1,r2,r3,r4⟩ := RefUser.box_cells HX_WA.out
 go_wp2_with fail
 refine (CB.out _ _ _ _ _ _ _ _ _ _ _ _ _ _ _ (HG.out.keep (HB_WA.out.alloc HB_WA.out.size _)) (HUA_WA.out.i.keep (Kit.below1 _ _)) (MacT.lit1_bs _ 1 1 rfl)).mono ?_
 rintro e wB ⟨NB,onB,npB,qhB,nhB,chB,mmB,qkB,nkB,ckB,qcB,ncB,ccB,rfl,hi,hb⟩
 replace hb := bel_al hb
 clear cA0 cA1 cA2 cA3 cA4 cA5 cA6
 clear r0 r1 r2 r3 r4
 have HUF_wB := Lib.hid (HUF_WA.out.keep hb)
 clear HUF_WA
 have HUA_wB := Lib.hid (HUA_WA.out.keep hb)
 clear HUA_WA
 have HX_wB := Lib.hid (bx_keep HX_WA.out hb)
 clear HX_WA
 have HB_wB := Lib.hid (HB_WA.out.trans (hb.mono HB_WA.out.size))
 clear HB_WA hb
 obtain ⟨WB,hW⟩ : ∃ W,W = wB.alloc (.cells #[.string NB,.bool onB,.bool npB,.slice qhB nhB chB,.int .u64 mmB,.slice qkB nkB ckB,.slice qcB ncB ccB] 26) := ⟨_,rfl⟩
 obtain ⟨gB,hgz⟩ : ∃ k,k = wB.heap.size := ⟨_,rfl⟩
 have hu : UAt WB gB ⟨NB,onB,npB,qhB,nhB,chB,mmB,qkB,nkB,ckB,qcB,ncB,ccB,A⟩ := by rw [hW,hgz]; exact UAt.new hi
 have hbn : Below wB.heap.size wB WB := by rw [hW]; exact Kit.below1 _ _
 clear hi
 have HUF_WB := Lib.hid (HUF_wB.out.keep hbn)
 clear HUF_wB
 have HUA_WB := Lib.hid (HUA_wB.out.keep hbn)
 clear HUA_wB
 have HX_WB := Lib.hid (bx_keep HX_wB.out hbn)
 clear HX_wB
 have HB_WB := Lib.hid (HB_wB.out.trans (hbn.mono HB_wB.out.size))
 clear HB_wB hbn
 have HUB_WB := Lib.hid hu
 clear hu
 go_upto_region 5 with fail
 rw [← hW,← hgz]
 clear hW hgz
 have hq := HUA_WB.out.h
 simp only [ucs] at hq
 obtain ⟨cA0,cA1,cA2,cA3,cA4,cA5,cA6⟩ := u_cells hq
 clear hq
 have hq := HUB_WB.out.h
 simp only [ucs] at hq
 obtain ⟨cB0,cB1,cB2,cB3,cB4,cB5,cB6⟩ := u_cells hq
 clear hq
 obtain ⟨r0,r1,r2,r3,r4⟩ := RefUser.box_cells HX_WB.out
 go_wp2_with fail
 refine (same_told HUA_WB.out.i HUB_WB.out.i).mono ?_
 rintro e w5 ⟨rfl,hb⟩
 rw [decide_eq_true (rfl : A = A)]
 clear cA0 cA1 cA2 cA3 cA4 cA5 cA6
 clear cB0 cB1 cB2 cB3 cB4 cB5 cB6
 clear r0 r1 r2 r3 r4
 have HUF_w5 := Lib.hid (HUF_WB.out.keep hb)
 clear HUF_WB
 have HUA_w5 := Lib.hid (HUA_WB.out.keep hb)
 clear HUA_WB
 have HUB_w5 := Lib.hid (HUB_WB.out.keep hb)
 clear HUB_WB
 have HX_w5 := Lib.hid (bx_keep HX_WB.out hb)
 clear HX_WB
 have HB_w5 := Lib.hid (HB_WB.out.trans (hb.mono HB_WB.out.size))
 clear HB_WB hb
 have hq := HUA_w5.out.h
 simp only [ucs] at hq
 obtain ⟨cA0,cA1,cA2,cA3,cA4,cA5,cA6⟩ := u_cells hq
 clear hq
 have hq := HUF_w5.out.h
 simp only [ucs] at hq
 obtain ⟨cF0,cF1,cF2,cF3,cF4,cF5,cF6⟩ := u_cells hq
 clear hq
 obtain ⟨r0,r1,r2,r3,r4⟩ := RefUser.box_cells HX_w5.out
 go_wp2_with fail
 refine (same_told HUA_w5.out.i HUF_w5.out.i).mono ?_
 rintro e w6 ⟨rfl,hb⟩
 clear cA0 cA1 cA2 cA3 cA4 cA5 cA6
 clear cF0 cF1 cF2 cF3 cF4 cF5 cF6
 clear r0 r1 r2 r3 r4
 have HUF_w6 := Lib.hid (HUF_w5.out.keep hb)
 clear HUF_w5
 have HUA_w6 := Lib.hid (HUA_w5.out.keep hb)
 clear HUA_w5
 have HUB_w6 := Lib.hid (HUB_w5.out.keep hb)
 clear HUB_w5
 have HX_w6 := Lib.hid (bx_keep HX_w5.out hb)
 clear HX_w5
 have HB_w6 := Lib.hid (HB_w5.out.trans (hb.mono HB_w5.out.size))
 clear HB_w5 hb
 obtain ⟨st,hst⟩ : ∃ st,st = decide (A = F) := ⟨_,rfl⟩
 rw [← hst]
 have HSs := Lib.hid (show ok = false → st = true from fun h => by rw [hst]; exact decide_eq_true (HSt.out h))
 clear hst HSt
 have hq := HUF_w6.out.h
 simp only [ucs] at hq
 obtain ⟨cF0,cF1,cF2,cF3,cF4,cF5,cF6⟩ := u_cells hq
 clear hq
 obtain ⟨r0,r1,r2,r3,r4⟩ := RefUser.box_cells HX_w6.out
 go_wp2_with fail
 refine (CR.out _ _ _ _ _ _ _ _ _ _ _ _ _ _ (HG.out.keep HB_w6.out) HUF_w6.out.i).mono ?_
 rintro e w7 ⟨NR,onR,npR,qhR,nhR,chR,mmR,qkR,nkR,ckR,qcR,ncR,ccR,rfl,hi,hb⟩
 have HUF_w7 := Lib.hid (HUF_w6.out.keep hb)
 clear HUF_w6
 have HUA_w7 := Lib.hid (HUA_w6.out.keep hb)
 clear HUA_w6
 have HUB_w7 := Lib.hid (HUB_w6.out.keep hb)
 clear HUB_w6
 have HX_w7 := Lib.hid (bx_keep HX_w6.out hb)
 clear HX_w6
 have HB_w7 := Lib.hid (HB_w6.out.trans (hb.mono HB_w6.out.size))
 clear HB_w6 hb
 clear cF0 cF1 cF2 cF3 cF4 cF5 cF6
 clear r0 r1 r2 r3 r4
 obtain ⟨WR,hW⟩ : ∃ W,W = w7.alloc (.cells #[.string NR,.bool onR,.bool npR,.slice qhR nhR chR,.int .u64 mmR,.slice qkR nkR ckR,.slice qcR ncR ccR] 26) := ⟨_,rfl⟩
 obtain ⟨gR,hgz⟩ : ∃ k,k = w7.heap.size := ⟨_,rfl⟩
 have hu : UAt WR gR ⟨NR,onR,npR,qhR,nhR,chR,mmR,qkR,nkR,ckR,qcR,ncR,ccR,(newU [117])⟩ := by rw [hW,hgz]; exact UAt.new hi
 have hbn : Below w7.heap.size w7 WR := by rw [hW]; exact Kit.below1 _ _
 clear hi
 have HUF_WR := Lib.hid (HUF_w7.out.keep hbn)
 clear HUF_w7
 have HUA_WR := Lib.hid (HUA_w7.out.keep hbn)
 clear HUA_w7
 have HUB_WR := Lib.hid (HUB_w7.out.keep hbn)
 clear HUB_w7
 have HX_WR := Lib.hid (bx_keep HX_w7.out hbn)
 clear HX_w7
 have HB_WR := Lib.hid (HB_w7.out.trans (hbn.mono HB_w7.out.size))
 clear HB_w7 hbn
 have HUR_WR := Lib.hid hu
 clear hu
 go_upto_region 8 with fail
 rw [← hW,← hgz]
 clear hW hgz
 have hq := HUR_WR.out.h
 simp only [ucs] at hq
 obtain ⟨cR0,cR1,cR2,cR3,cR4,cR5,cR6⟩ := u_cells hq
 clear hq
 obtain ⟨r0,r1,r2,r3,r4⟩ := RefUser.box_cells HX_WR.out
 go_wp2_with fail
 go_region_law (first
  | (go_simp; (with_reducible refine (CN.out _ (by first | exact HG.out.keep HB_WR.out | exact HG.out.keep HB_WR.out.drew)).mono ?_); rintro e w8 ⟨NE,onE,npE,qhE,nhE,chE,mmE,qkE,nkE,ckE,qcE,ncE,ccE,rfl,hi,hb⟩; dsimp only
     have hb8 : Below WR.heap.size WR w8 := by first | exact hb | exact (Below.refl WR.heap.size WR).drew.trans hb
     have HE := Lib.hid hi
     have HR8 := Lib.hid (HUR_WR.out.keep hb8)
     have hq8 := HR8.out.h
     simp only [ucs] at hq8
     obtain ⟨e0,e1,e2,e3,e4,e5,e6⟩ := u_cells hq8
     have H8 := Lib.hid hb8
     clear hi hb hb8 hq8)
  | (go_simp; (with_reducible refine (same_told HR8.out.i HE.out).mono ?_); rintro e w9 ⟨rfl,hb⟩; dsimp only
     have H9 := Lib.hid (H8.out.trans (hb.mono H8.out.size))
     clear hb))
 all_goals
  skip
  have hb := H9.out
  clear H8 H9 HE HR8 e0 e1 e2 e3 e4 e5 e6
  clear cR0 cR1 cR2 cR3 cR4 cR5 cR6
  clear r0 r1 r2 r3 r4
  have HUF_w9 := Lib.hid (HUF_WR.out.keep hb)
  clear HUF_WR
  have HUA_w9 := Lib.hid (HUA_WR.out.keep hb)
  clear HUA_WR
  have HUB_w9 := Lib.hid (HUB_WR.out.keep hb)
  clear HUB_WR
  have HUR_w9 := Lib.hid (HUR_WR.out.keep hb)
  clear HUR_WR
  have HX_w9 := Lib.hid (bx_keep HX_WR.out hb)
  clear HX_WR
  have HB_w9 := Lib.hid (HB_WR.out.trans (hb.mono HB_WR.out.size))
  clear HB_WR hb
  have hq := HUF_w9.out.h
  simp only [ucs] at hq
  obtain ⟨cF0,cF1,cF2,cF3,cF4,cF5,cF6⟩ := u_cells hq
  clear hq
  obtain ⟨r0,r1,r2,r3,r4⟩ := RefUser.box_cells HX_w9.out
  go_wp2_with fail
  refine (CP.out _ _ _ _ _ _ _ _ _ _ _ _ _ _ (HG.out.keep HB_w9.out) HUF_w9.out.i).mono ?_
  rintro e w10 ⟨NP,onP,npP,qhP,nhP,chP,mmP,qkP,nkP,ckP,qcP,ncP,ccP,rfl,hi,hb⟩
  have HUF_w10 := Lib.hid (HUF_w9.out.keep hb)
  clear HUF_w9
  have HUA_w10 := Lib.hid (HUA_w9.out.keep hb)
  clear HUA_w9
  have HUB_w10 := Lib.hid (HUB_w9.out.keep hb)
  clear HUB_w9
  have HUR_w10 := Lib.hid (HUR_w9.out.keep hb)
  clear HUR_w9
  have HX_w10 := Lib.hid (bx_keep HX_w9.out hb)
  clear HX_w9
  have HB_w10 := Lib.hid (HB_w9.out.trans (hb.mono HB_w9.out.size))
  clear HB_w9 hb
  clear cF0 cF1 cF2 cF3 cF4 cF5 cF6
  clear r0 r1 r2 r3 r4
  obtain ⟨WP,hW⟩ : ∃ W,W = w10.alloc (.cells #[.string NP,.bool onP,.bool npP,.slice qhP nhP chP,.int .u64 mmP,.slice qkP nkP ckP,.slice qcP ncP ccP] 26) := ⟨_,rfl⟩
  obtain ⟨gP,hgz⟩ : ∃ k,k = w10.heap.size := ⟨_,rfl⟩
  have hu : UAt WP gP ⟨NP,onP,npP,qhP,nhP,chP,mmP,qkP,nkP,ckP,qcP,ncP,ccP,{ F with np := true,hs := [] }⟩ := by rw [hW,hgz]; exact UAt.new hi
  have hbn : Below w10.heap.size w10 WP := by rw [hW]; exact Kit.below1 _ _
  clear hi
  have HUF_WP := Lib.hid (HUF_w10.out.keep hbn)
  clear HUF_w10
  have HUA_WP := Lib.hid (HUA_w10.out.keep hbn)
  clear HUA_w10
  have HUB_WP := Lib.hid (HUB_w10.out.keep hbn)
  clear HUB_w10
  have HUR_WP := Lib.hid (HUR_w10.out.keep hbn)
  clear HUR_w10
  have HX_WP := Lib.hid (bx_keep HX_w10.out hbn)
  clear HX_w10
  have HB_WP := Lib.hid (HB_w10.out.trans (hbn.mono HB_w10.out.size))
  clear HB_w10 hbn
  have HUP_WP := Lib.hid hu
  clear hu
  go_upto_region 10 with fail
  rw [← hW,← hgz]
  clear hW hgz
  have hq := HUP_WP.out.h
  simp only [ucs] at hq
  obtain ⟨cP0,cP1,cP2,cP3,cP4,cP5,cP6⟩ := u_cells hq
  clear hq
  obtain ⟨r0,r1,r2,r3,r4⟩ := RefUser.box_cells HX_WP.out
  go_wp2_with fail
  refine (CQ.out _ _ _ _ _ _ _ _ _ _ _ _ _ _ (HG.out.keep HB_WP.out) HUP_WP.out.i).mono ?_
  rintro e w11 ⟨NQ,onQ,npQ,qhQ,nhQ,chQ,mmQ,qkQ,nkQ,ckQ,qcQ,ncQ,ccQ,rfl,hi,hb⟩
  have HUF_w11 := Lib.hid (HUF_WP.out.keep hb)
  clear HUF_WP
  have HUA_w11 := Lib.hid (HUA_WP.out.keep hb)
  clear HUA_WP
  have HUB_w11 := Lib.hid (HUB_WP.out.keep hb)
  clear HUB_WP
  have HUR_w11 := Lib.hid (HUR_WP.out.keep hb)
  clear HUR_WP
  have HUP_w11 := Lib.hid (HUP_WP.out.keep hb)
  clear HUP_WP
  have HX_w11 := Lib.hid (bx_keep HX_WP.out hb)
  clear HX_WP
  have HB_w11 := Lib.hid (HB_WP.out.trans (hb.mono HB_WP.out.size))
  clear HB_WP hb
  clear cP0 cP1 cP2 cP3 cP4 cP5 cP6
  clear r0 r1 r2 r3 r4
  obtain ⟨WQ,hW⟩ : ∃ W,W = w11.alloc (.cells #[.string NQ,.bool onQ,.bool npQ,.slice qhQ nhQ chQ,.int .u64 mmQ,.slice qkQ nkQ ckQ,.slice qcQ ncQ ccQ] 26) := ⟨_,rfl⟩
  obtain ⟨gQ,hgz⟩ : ∃ k,k = w11.heap.size := ⟨_,rfl⟩
  have hu : UAt WQ gQ ⟨NQ,onQ,npQ,qhQ,nhQ,chQ,mmQ,qkQ,nkQ,ckQ,qcQ,ncQ,ccQ,{ F with np := false,hs := [] }⟩ := by rw [hW,hgz]; exact UAt.new hi
  have hbn : Below w11.heap.size w11 WQ := by rw [hW]; exact Kit.below1 _ _
  clear hi
  have HUF_WQ := Lib.hid (HUF_w11.out.keep hbn)
  clear HUF_w11
  have HUA_WQ := Lib.hid (HUA_w11.out.keep hbn)
  clear HUA_w11
  have HUB_WQ := Lib.hid (HUB_w11.out.keep hbn)
  clear HUB_w11
  have HUR_WQ := Lib.hid (HUR_w11.out.keep hbn)
  clear HUR_w11
  have HUP_WQ := Lib.hid (HUP_w11.out.keep hbn)
  clear HUP_w11
  have HX_WQ := Lib.hid (bx_keep HX_w11.out hbn)
  clear HX_w11
  have HB_WQ := Lib.hid (HB_w11.out.trans (hbn.mono HB_w11.out.size))
  clear HB_w11 hbn
  have HUQ_WQ := Lib.hid hu
  clear hu
  go_upto_region 11 with fail
  rw [← hW,← hgz]
  clear hW hgz
  obtain rfl : npP = true := HUP_WQ.out.i.ep
  obtain rfl : npQ = false := HUQ_WQ.out.i.ep
  obtain rfl : nhP = 0 := HUP_WQ.out.i.h.l.symm
  obtain rfl : nhQ = 0 := HUQ_WQ.out.i.h.l.symm
  obtain rfl : mmP = mmF := (show mmP = (F.cmds : Int) from HUP_WQ.out.i.em).trans (show mmF = (F.cmds : Int) from HUF_WQ.out.i.em).symm
  obtain rfl : nkQ = nkF := (show F.ks.length = nkQ from HUQ_WQ.out.i.k.l).symm.trans (show F.ks.length = nkF from HUF_WQ.out.i.k.l)
  have hq := HUF_WQ.out.h
  simp only [ucs] at hq
  obtain ⟨cF0,cF1,cF2,cF3,cF4,cF5,cF6⟩ := u_cells hq
  clear hq
  have hq := HUP_WQ.out.h
  simp only [ucs] at hq
  obtain ⟨cP0,cP1,cP2,cP3,cP4,cP5,cP6⟩ := u_cells hq
  clear hq
  have hq := HUQ_WQ.out.h
  simp only [ucs] at hq
  obtain ⟨cQ0,cQ1,cQ2,cQ3,cQ4,cQ5,cQ6⟩ := u_cells hq
  clear hq
  obtain ⟨r0,r1,r2,r3,r4⟩ := RefUser.box_cells HX_WQ.out
  cases ok with
  | true =>
    go_wp2_with fail
    go_ret
    exact ⟨by simp,HB_WQ.out⟩
  | false =>
    obtain rfl : st = true := HSs.out rfl
    go_wp2_with fail
    go_ret
    exact ⟨by simp,HB_WQ.out⟩
end Go.Proofs.YtpoinibckmbfcaaGreatDoor.userOnce
