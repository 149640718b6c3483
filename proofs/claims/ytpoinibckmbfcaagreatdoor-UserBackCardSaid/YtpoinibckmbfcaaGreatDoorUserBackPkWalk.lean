/-
  The walk of UserBack.
-/
import Derived.Test.YtpoinibckmbfcaaGreatDoorPk49
namespace Go.Proofs.YtpoinibckmbfcaaGreatDoor.userBack
open Go.RowKit Kit StrT RowG RuleT UserT UserR UserM RefUser UserL
open Go.Sort (grow)
set_option linter.unusedVariables false
set_option maxRecDepth 100000
def cutS (s : ByteArray) : ByteArray := if 300 < s.size then s.extract 0 300 else s
theorem cutS_size (s : ByteArray) : (cutS s).size ≤ 300 := by
 unfold cutS
 split
 · rw [ByteArray.size_extract]; omega
 · omega
theorem size_tl {s : ByteArray} : s.data.toList.length = s.size := by simp
set_option maxHeartbeats 16000000 in
theorem walk (s : ByteArray) (q : Option Addr) (L : List RV) (n c : Nat) (P : ByteArray) (w : World) (hs : s.size ≤ 140737488351232) (hn : L.length = n) (hnz : n ≤ 140737488351232) (h : Rs ruE w q L) (hL : ∀ v ∈ L,v.kind ≤ 255 ∧ v.mask < 18446744073709551616) (hP : P.size ≤ 140737488351232) (hg1 : NumL.Gd w) (hg2 : MacT.Mx w) (hg3 : ShaT.Tabs w) (hg4 : UserM.Tz w) :
  Calls Tryz.prog 4 #[.string s,.slice q n c,.string P] w fun e w' => e = .returned (.bool true) ∧ Below w.heap.size w w' := by
 have HG := Lib.hid (Gu.mk hg1 hg2 hg3 hg4)
 have HRt := Lib.hid (fit_right s.data.toList L)
 have HSh := Lib.hid (fit_short s.data.toList L)
 obtain ⟨F,hF⟩ : ∃ F,F = fitD s.data.toList L := ⟨_,rfl⟩
 have CF := Lib.hid (fun W (hW : Below w.heap.size w W) => (show CUse 9 #[.string s,.slice q n c] W F from by rw [hF]; exact use_of (fit_any s q n c L W hs hn (by omega) (h.keep hW) hL)))
 rw [← hF] at HRt HSh
 clear hF hn h hL hg1 hg2 hg3 hg4
 have hTl := text_len HRt.out HSh.out
 have hRb := (right_iff F).2 HRt.out
 obtain ⟨T,hT⟩ : ∃ T : ByteArray,T = ⟨(textD F).toArray⟩ := ⟨_,rfl⟩
 have CT := Lib.hid (fun N on np qh nh ch mm qk nk ck qc nc cc W (h : Gu W) (hU : UIn W ⟨N,on,np,qh,nh,ch,mm,qk,nk,ck,qc,nc,cc,F⟩) => text_told h hU HRt.out (Nat.le_trans hTl (by decide)))
 rw [← hT] at CT
 have hTd : T.data.toList = textD F := by rw [hT]
 have hTs : T.size ≤ 40000 := by rw [← size_tl,hTd]; exact hTl
 have CP := Lib.hid (fun W (h : Gu W) => par_some (T := T) h (by omega) (u := F) (by rw [hTd]; exact parse_text hRb))
 have CP1 := Lib.hid (fun W (h : Gu W) => par_none (T := T ++ ⟨#[32]⟩) h (by rw [ByteArray.size_append]; have : (⟨#[32]⟩ : ByteArray).size = 1 := rfl; omega) (by
  have e : (T ++ ⟨#[32]⟩ : ByteArray).data.toList = textD F ++ 32 :: [] := by rw [← hTd]; simp
  rw [e]
  exact parse_tail hRb (by simp) (by simp) (by simp)))
 have CP2 := Lib.hid (fun W (h : Gu W) => par_none (T := ⟨#[32]⟩ ++ T) h (by rw [ByteArray.size_append]; have : (⟨#[32]⟩ : ByteArray).size = 1 := rfl; omega) (by
  have e : (⟨#[32]⟩ ++ T : ByteArray).data.toList = 32 :: textD F := by rw [← hTd]; simp
  rw [e]
  exact parse_front F))
 have CP3 := Lib.hid (fun W (h : Gu W) => par_none (T := T ++ ⟨#[32,111,110]⟩) h (by rw [ByteArray.size_append]; have : (⟨#[32,111,110]⟩ : ByteArray).size = 3 := rfl; omega) (by
  have e : (T ++ ⟨#[32,111,110]⟩ : ByteArray).data.toList = textD F ++ 32 :: [111,110] := by rw [← hTd]; simp
  rw [e]
  exact parse_tail hRb (by decide) (by decide) (by decide)))
 clear hT hTd hTl hRb
 have C0 := Lib.hid (fun W (h : Gu W) => shown_any W h)
 obtain ⟨X,hX⟩ : ∃ X,X = cutS P := ⟨_,rfl⟩
 have hXs : X.size ≤ 300 := by rw [hX]; exact cutS_size P
 have hmn : min (P.size : Int) 300 = ((min P.size 300 : Nat) : Int) := by omega
 have s1 : ∀ W,(Instr.slice 9 (.string P) none (some (.int .i64 ((min P.size 300 : Nat) : Int))) none).run Tryz.prog W = .ok (.string X) W := fun W => by
  have h := run_slice_string_h (P := Tryz.prog) W 9 P Tryz.underlying9 .i64 ((min P.size 300 : Nat) : Int) (by omega) (by omega)
  rw [h,hX]
  unfold cutS
  by_cases h40 : 300 < P.size
  · rw [if_pos h40,show ((min P.size 300 : Nat) : Int).toNat = 300 by omega]
  · rw [if_neg h40,show ((min P.size 300 : Nat) : Int).toNat = P.size by omega,ByteArray.extract_zero_size]
 generalize ((min P.size 300 : Nat) : Int) = mn at hmn s1
 clear hX
 have CV := Lib.hid (fun W (h : Gu W) => par_of (T := X) h (by omega))
 have HVy := Lib.hid (show (parseD X.data.toList).isSome = true → RightU ((parseD X.data.toList).getD (newU [])) ∧ (⟨(textD ((parseD X.data.toList).getD (newU []))).toArray⟩ : ByteArray) = X ∧ Sh 300 ((parseD X.data.toList).getD (newU [])) from fun h => by
  cases ho : parseD X.data.toList with
  | none => rw [ho] at h; cases h
  | some v =>
    obtain ⟨h1,h2⟩ := parse_some ho
    have e : (⟨(textD v).toArray⟩ : ByteArray) = X := by rw [h2]
    refine ⟨(right_iff v).1 h1,e,?_⟩
    have hl : (textD v).length ≤ 300 := by rw [h2,size_tl]; exact hXs
    have hs := sh_text (u := v)
    exact ⟨fun x hx => Nat.le_trans (hs.h x hx) hl,fun g hg => Nat.le_trans (hs.k g hg) hl,fun x hx => Nat.le_trans (hs.c x hx) hl⟩)
 have HVn := Lib.hid (show (parseD X.data.toList).isSome = false → (parseD X.data.toList).getD (newU []) = newU [] from fun h => by
  cases ho : parseD X.data.toList with
  | none => rfl
  | some v => rw [ho] at h; cases h)
 generalize (parseD X.data.toList).getD (newU []) = V at CV HVy HVn
 generalize (parseD X.data.toList).isSome = is at CV HVy HVn
 have HB_w := Lib.hid (Below.refl w.heap.size w)
 go_enter Tryz.func4,Tryz.ntmps4
 go_wp2_with fail
 refine (C0.out _ (HG.out.keep HB_w.out)).mono ?_
 rintro e w1 ⟨rfl,hb⟩
 have HB_w1 := Lib.hid (HB_w.out.trans (hb.mono HB_w.out.size))
 clear HB_w hb
 go_wp2_with fail
 refine (CF.out _ HB_w1.out).mono ?_
 rintro e w2 ⟨NF,onF,npF,qhF,nhF,chF,mmF,qkF,nkF,ckF,qcF,ncF,ccF,rfl,hi,hb⟩
 have HB_w2 := Lib.hid (HB_w1.out.trans (hb.mono HB_w1.out.size))
 clear HB_w1 hb
 obtain ⟨WF,hW⟩ : ∃ W,W = w2.alloc (.cells #[.string NF,.bool onF,.bool npF,.slice qhF nhF chF,.int .u64 mmF,.slice qkF nkF ckF,.slice qcF ncF ccF] 26) := ⟨_,rfl⟩
 obtain ⟨gF,hgz⟩ : ∃ k,k = w2.heap.size := ⟨_,rfl⟩
 have hu : UAt WF gF ⟨NF,onF,npF,qhF,nhF,chF,mmF,qkF,nkF,ckF,qcF,ncF,ccF,F⟩ := by rw [hW,hgz]; exact UAt.new hi
 have hbn : Below w2.heap.size w2 WF := by rw [hW]; exact Kit.below1 _ _
 clear hi
 have HB_WF := Lib.hid (HB_w2.out.trans (hbn.mono HB_w2.out.size))
 clear HB_w2 hbn
 have HUF_WF := Lib.hid hu
 clear hu
 go_upto_region 3 with fail
 rw [← hW,← hgz]
 clear hW hgz
 have hq := HUF_WF.out.h
 simp only [ucs] at hq
 obtain ⟨cF0,cF1,cF2,cF3,cF4,cF5,cF6⟩ := u_cells hq
 clear hq
 go_wp2_with fail
 refine (CT.out _ _ _ _ _ _ _ _ _ _ _ _ _ _ (HG.out.keep HB_WF.out) HUF_WF.out.i).mono ?_
 rintro e w3 ⟨rfl,hb⟩
 clear cF0 cF1 cF2 cF3 cF4 cF5 cF6
 have HUF_w3 := Lib.hid (HUF_WF.out.keep hb)
 clear HUF_WF
 have HB_w3 := Lib.hid (HB_WF.out.trans (hb.mono HB_WF.out.size))
 clear HB_WF hb
 go_wp2_with fail
 refine (CP.out _ (HG.out.keep HB_w3.out)).mono ?_
 rintro e w4 ⟨NU,onU,npU,qhU,nhU,chU,mmU,qkU,nkU,ckU,qcU,ncU,ccU,rfl,hi,hb⟩
 have HUF_w4 := Lib.hid (HUF_w3.out.keep hb)
 clear HUF_w3
 have HB_w4 := Lib.hid (HB_w3.out.trans (hb.mono HB_w3.out.size))
 clear HB_w3 hb
 obtain ⟨WU,hW⟩ : ∃ W,W = w4.alloc (.cells #[.string NU,.bool onU,.bool npU,.slice qhU nhU chU,.int .u64 mmU,.slice qkU nkU ckU,.slice qcU ncU ccU] 26) := ⟨_,rfl⟩
 obtain ⟨gU,hgz⟩ : ∃ k,k = w4.heap.size := ⟨_,rfl⟩
 have hu : UAt WU gU ⟨NU,onU,npU,qhU,nhU,chU,mmU,qkU,nkU,ckU,qcU,ncU,ccU,F⟩ := by rw [hW,hgz]; exact UAt.new hi
 have hbn : Below w4.heap.size w4 WU := by rw [hW]; exact Kit.below1 _ _
 clear hi
 have HUF_WU := Lib.hid (HUF_w4.out.keep hbn)
 clear HUF_w4
 have HB_WU := Lib.hid (HB_w4.out.trans (hbn.mono HB_w4.out.size))
 clear HB_w4 hbn
 have HUU_WU := Lib.hid hu
 clear hu
 go_upto_region 5 with fail
 rw [← hW,← hgz]
 clear hW hgz
 have hq := HUU_WU.out.h
 simp only [ucs] at hq
 obtain ⟨cU0,cU1,cU2,cU3,cU4,cU5,cU6⟩ := u_cells hq
 clear hq
 have hq := HUF_WU.out.h
 simp only [ucs] at hq
 obtain ⟨cF0,cF1,cF2,cF3,cF4,cF5,cF6⟩ := u_cells hq
 clear hq
 go_wp2_with fail
 refine (same_told HUU_WU.out.i HUF_WU.out.i).mono ?_
 rintro e w5 ⟨rfl,hb⟩
 rw [decide_eq_true rfl]
 clear cU0 cU1 cU2 cU3 cU4 cU5 cU6
 clear cF0 cF1 cF2 cF3 cF4 cF5 cF6
 have HUF_w5 := Lib.hid (HUF_WU.out.keep hb)
 clear HUF_WU
 have HUU_w5 := Lib.hid (HUU_WU.out.keep hb)
 clear HUU_WU
 have HB_w5 := Lib.hid (HB_WU.out.trans (hb.mono HB_WU.out.size))
 clear HB_WU hb
 go_wp2_with fail
 refine (CV.out _ (HG.out.keep HB_w5.out)).mono ?_
 rintro e w6 ⟨NV,onV,npV,qhV,nhV,chV,mmV,qkV,nkV,ckV,qcV,ncV,ccV,rfl,hi,hb⟩
 have HUF_w6 := Lib.hid (HUF_w5.out.keep hb)
 clear HUF_w5
 have HUU_w6 := Lib.hid (HUU_w5.out.keep hb)
 clear HUU_w5
 have HB_w6 := Lib.hid (HB_w5.out.trans (hb.mono HB_w5.out.size))
 clear HB_w5 hb
 obtain ⟨WV,hW⟩ : ∃ W,W = w6.alloc (.cells #[.string NV,.bool onV,.bool npV,.slice qhV nhV chV,.int .u64 mmV,.slice qkV nkV ckV,.slice qcV ncV ccV] 26) := ⟨_,rfl⟩
 obtain ⟨gV,hgz⟩ : ∃ k,k = w6.heap.size := ⟨_,rfl⟩
 have hu : UAt WV gV ⟨NV,onV,npV,qhV,nhV,chV,mmV,qkV,nkV,ckV,qcV,ncV,ccV,V⟩ := by rw [hW,hgz]; exact UAt.new hi
 have hbn : Below w6.heap.size w6 WV := by rw [hW]; exact Kit.below1 _ _
 clear hi
 have HUF_WV := Lib.hid (HUF_w6.out.keep hbn)
 clear HUF_w6
 have HUU_WV := Lib.hid (HUU_w6.out.keep hbn)
 clear HUU_w6
 have HB_WV := Lib.hid (HB_w6.out.trans (hbn.mono HB_w6.out.size))
 clear HB_w6 hbn
 have HUV_WV := Lib.hid hu
 clear hu
 go_upto_region 8 with fail
 rw [← hW,← hgz]
 clear hW hgz
 go_wp2_with fail
 refine (CP1.out _ (HG.out.keep HB_WV.out)).mono ?_
 rintro e wA ⟨NA,onA,npA,qhA,nhA,chA,mmA,qkA,nkA,ckA,qcA,ncA,ccA,rfl,hi,hb⟩
 have HUF_wA := Lib.hid (HUF_WV.out.keep hb)
 clear HUF_WV
 have HUU_wA := Lib.hid (HUU_WV.out.keep hb)
 clear HUU_WV
 have HUV_wA := Lib.hid (HUV_WV.out.keep hb)
 clear HUV_WV
 have HB_wA := Lib.hid (HB_WV.out.trans (hb.mono HB_WV.out.size))
 clear HB_WV hb
 obtain ⟨WA,hW⟩ : ∃ W,W = wA.alloc (.cells #[.string NA,.bool onA,.bool npA,.slice qhA nhA chA,.int .u64 mmA,.slice qkA nkA ckA,.slice qcA ncA ccA] 26) := ⟨_,rfl⟩
 obtain ⟨gA,hgz⟩ : ∃ k,k = wA.heap.size := ⟨_,rfl⟩
 have hu : UAt WA gA ⟨NA,onA,npA,qhA,nhA,chA,mmA,qkA,nkA,ckA,qcA,ncA,ccA,(newU [])⟩ := by rw [hW,hgz]; exact UAt.new hi
 have hbn : Below wA.heap.size wA WA := by rw [hW]; exact Kit.below1 _ _
 clear hi
 have HUF_WA := Lib.hid (HUF_wA.out.keep hbn)
 clear HUF_wA
 have HUU_WA := Lib.hid (HUU_wA.out.keep hbn)
 clear HUU_wA
 have HUV_WA := Lib.hid (HUV_wA.out.keep hbn)
 clear HUV_wA
 have HB_WA := Lib.hid (HB_wA.out.trans (hbn.mono HB_wA.out.size))
 clear HB_wA hbn
 have HUA_WA := Lib.hid hu
 clear hu
 go_upto_region 9 with fail
 rw [← hW,← hgz]
 clear hW hgz
 go_wp2_with fail
 refine (CP2.out _ (HG.out.keep HB_WA.out)).mono ?_
 rintro e wB ⟨NB,onB,npB,qhB,nhB,chB,mmB,qkB,nkB,ckB,qcB,ncB,ccB,rfl,hi,hb⟩
 have HUF_wB := Lib.hid (HUF_WA.out.keep hb)
 clear HUF_WA
 have HUU_wB := Lib.hid (HUU_WA.out.keep hb)
 clear HUU_WA
 have HUV_wB := Lib.hid (HUV_WA.out.keep hb)
 clear HUV_WA
 have HUA_wB := Lib.hid (HUA_WA.out.keep hb)
 clear HUA_WA
 have HB_wB := Lib.hid (HB_WA.out.trans (hb.mono HB_WA.out.size))
 clear HB_WA hb
 obtain ⟨WB,hW⟩ : ∃ W,W = wB.alloc (.cells #[.string NB,.bool onB,.bool npB,.slice qhB nhB chB,.int .u64 mmB,.slice qkB nkB ckB,.slice qcB ncB ccB] 26) := ⟨_,rfl⟩
 obtain ⟨gB,hgz⟩ : ∃ k,k = wB.heap.size := ⟨_,rfl⟩
 have hu : UAt WB gB ⟨NB,onB,npB,qhB,nhB,chB,mmB,qkB,nkB,ckB,qcB,ncB,ccB,(newU [])⟩ := by rw [hW,hgz]; exact UAt.new hi
 have hbn : Below wB.heap.size wB WB := by rw [hW]; exact Kit.below1 _ _
 clear hi
 have HUF_WB := Lib.hid (HUF_wB.out.keep hbn)
 clear HUF_wB
 have HUU_WB := Lib.hid (HUU_wB.out.keep hbn)
 clear HUU_wB
 have HUV_WB := Lib.hid (HUV_wB.out.keep hbn)
 clear HUV_wB
 have HUA_WB := Lib.hid (HUA_wB.out.keep hbn)
 clear HUA_wB
 have HB_WB := Lib.hid (HB_wB.out.trans (hbn.mono HB_wB.out.size))
 clear HB_wB hbn
 have HUB_WB := Lib.hid hu
 clear hu
 go_upto_region 10 with fail
 rw [← hW,← hgz]
 clear hW hgz
 go_wp2_with fail
 refine (CP3.out _ (HG.out.keep HB_WB.out)).mono ?_
 rintro e wC ⟨NC,onC,npC,qhC,nhC,chC,mmC,qkC,nkC,ckC,qcC,ncC,ccC,rfl,hi,hb⟩
 have HUF_wC := Lib.hid (HUF_WB.out.keep hb)
 clear HUF_WB
 have HUU_wC := Lib.hid (HUU_WB.out.keep hb)
 clear HUU_WB
 have HUV_wC := Lib.hid (HUV_WB.out.keep hb)
 clear HUV_WB
 have HUA_wC := Lib.hid (HUA_WB.out.keep hb)
 clear HUA_WB
 have HUB_wC := Lib.hid (HUB_WB.out.keep hb)
 clear HUB_WB
 have HB_wC := Lib.hid (HB_WB.out.trans (hb.mono HB_WB.out.size))
 clear HB_WB hb
 obtain ⟨WC,hW⟩ : ∃ W,W = wC.alloc (.cells #[.string NC,.bool onC,.bool npC,.slice qhC nhC chC,.int .u64 mmC,.slice qkC nkC ckC,.slice qcC ncC ccC] 26) := ⟨_,rfl⟩
 obtain ⟨gC,hgz⟩ : ∃ k,k = wC.heap.size := ⟨_,rfl⟩
 have hu : UAt WC gC ⟨NC,onC,npC,qhC,nhC,chC,mmC,qkC,nkC,ckC,qcC,ncC,ccC,(newU [])⟩ := by rw [hW,hgz]; exact UAt.new hi
 have hbn : Below wC.heap.size wC WC := by rw [hW]; exact Kit.below1 _ _
 clear hi
 have HUF_WC := Lib.hid (HUF_wC.out.keep hbn)
 clear HUF_wC
 have HUU_WC := Lib.hid (HUU_wC.out.keep hbn)
 clear HUU_wC
 have HUV_WC := Lib.hid (HUV_wC.out.keep hbn)
 clear HUV_wC
 have HUA_WC := Lib.hid (HUA_wC.out.keep hbn)
 clear HUA_wC
 have HUB_WC := Lib.hid (HUB_wC.out.keep hbn)
 clear HUB_wC
 have HB_WC := Lib.hid (HB_wC.out.trans (hbn.mono HB_wC.out.size))
 clear HB_wC hbn
 have HUC_WC := Lib.hid hu
 clear hu
 go_upto_region 11 with fail
 rw [← hW,← hgz]
 clear hW hgz
 have hq := HUF_WC.out.h
 simp only [ucs] at hq
 obtain ⟨cF0,cF1,cF2,cF3,cF4,cF5,cF6⟩ := u_cells hq
 clear hq
 go_wp2_with fail
 refine (right_told (HG.out.keep HB_WC.out) HUF_WC.out.i HRt.out HSh.out (by decide)).mono ?_
 rintro e w7 ⟨rfl,hb⟩
 clear cF0 cF1 cF2 cF3 cF4 cF5 cF6
 have HUF_w7 := Lib.hid (HUF_WC.out.keep hb)
 clear HUF_WC
 have HUU_w7 := Lib.hid (HUU_WC.out.keep hb)
 clear HUU_WC
 have HUV_w7 := Lib.hid (HUV_WC.out.keep hb)
 clear HUV_WC
 have HUA_w7 := Lib.hid (HUA_WC.out.keep hb)
 clear HUA_WC
 have HUB_w7 := Lib.hid (HUB_WC.out.keep hb)
 clear HUB_WC
 have HUC_w7 := Lib.hid (HUC_WC.out.keep hb)
 clear HUC_WC
 have HB_w7 := Lib.hid (HB_WC.out.trans (hb.mono HB_WC.out.size))
 clear HB_WC hb
 have hq := HUV_w7.out.h
 simp only [ucs] at hq
 obtain ⟨cV0,cV1,cV2,cV3,cV4,cV5,cV6⟩ := u_cells hq
 clear hq
 cases is with
 | true =>
   obtain ⟨hvr,hvt,hvs⟩ := HVy.out rfl
   have HVr := Lib.hid hvr
   have HVs := Lib.hid hvs
   have hvl : (textD V).length ≤ 1048576 := by
    have h1 := congrArg (fun x : ByteArray => x.data.toList.length) hvt
    simp only at h1
    rw [size_tl (s := X)] at h1
    have h2 : (textD V).length = X.size := by simpa using h1
    omega
   have CTv := Lib.hid (fun N on np qh nh ch mm qk nk ck qc nc cc W (h : Gu W) (hU : UIn W ⟨N,on,np,qh,nh,ch,mm,qk,nk,ck,qc,nc,cc,V⟩) => text_told h hU HVr.out hvl)
   rw [hvt] at CTv
   clear hvr hvt hvs hvl
   go_wp2_with fail
   refine (CTv.out _ _ _ _ _ _ _ _ _ _ _ _ _ _ (HG.out.keep HB_w7.out) HUV_w7.out.i).mono ?_
   rintro e w8 ⟨rfl,hb⟩
   clear cV0 cV1 cV2 cV3 cV4 cV5 cV6
   have HUF_w8 := Lib.hid (HUF_w7.out.keep hb)
   clear HUF_w7
   have HUU_w8 := Lib.hid (HUU_w7.out.keep hb)
   clear HUU_w7
   have HUV_w8 := Lib.hid (HUV_w7.out.keep hb)
   clear HUV_w7
   have HUA_w8 := Lib.hid (HUA_w7.out.keep hb)
   clear HUA_w7
   have HUB_w8 := Lib.hid (HUB_w7.out.keep hb)
   clear HUB_w7
   have HUC_w8 := Lib.hid (HUC_w7.out.keep hb)
   clear HUC_w7
   have HB_w8 := Lib.hid (HB_w7.out.trans (hb.mono HB_w7.out.size))
   clear HB_w7 hb
   have hq := HUV_w8.out.h
   simp only [ucs] at hq
   obtain ⟨cV0,cV1,cV2,cV3,cV4,cV5,cV6⟩ := u_cells hq
   clear hq
   go_wp2_with fail
   refine (right_told (HG.out.keep HB_w8.out) HUV_w8.out.i HVr.out HVs.out (by decide)).mono ?_
   rintro e w9 ⟨rfl,hb⟩
   clear cV0 cV1 cV2 cV3 cV4 cV5 cV6
   have HUF_w9 := Lib.hid (HUF_w8.out.keep hb)
   clear HUF_w8
   have HUU_w9 := Lib.hid (HUU_w8.out.keep hb)
   clear HUU_w8
   have HUV_w9 := Lib.hid (HUV_w8.out.keep hb)
   clear HUV_w8
   have HUA_w9 := Lib.hid (HUA_w8.out.keep hb)
   clear HUA_w8
   have HUB_w9 := Lib.hid (HUB_w8.out.keep hb)
   clear HUB_w8
   have HUC_w9 := Lib.hid (HUC_w8.out.keep hb)
   clear HUC_w8
   have HB_w9 := Lib.hid (HB_w8.out.trans (hb.mono HB_w8.out.size))
   clear HB_w8 hb
   have hq := HUV_w9.out.h
   simp only [ucs] at hq
   obtain ⟨cV0,cV1,cV2,cV3,cV4,cV5,cV6⟩ := u_cells hq
   clear hq
   go_wp2_with fail
   go_ret
   exact ⟨rfl,HB_w9.out⟩
 | false =>
   obtain rfl : V = newU [] := HVn.out rfl
   obtain rfl : NV = ⟨#[]⟩ := RefRule.str_of (show NV.data.toList = [] from HUV_w7.out.i.en)
   obtain rfl : nkV = 0 := HUV_w7.out.i.k.l.symm
   go_wp2_with fail
   go_ret
   exact ⟨rfl,HB_w7.out⟩
end Go.Proofs.YtpoinibckmbfcaaGreatDoor.userBack
