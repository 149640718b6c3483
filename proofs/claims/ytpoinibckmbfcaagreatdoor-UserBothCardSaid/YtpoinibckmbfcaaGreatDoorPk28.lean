/-
  Packed by program.
-/
import Derived.Test.YtpoinibckmbfcaaGreatDoorPk27
import Derived.Test.YtpoinibckmbfcaaGreatDoorPk21
import Derived.Test.YtpoinibckmbfcaaGreatDoorPk27
namespace Go.Proofs.YtpoinibckmbfcaaGreatDoor.RuleM
open Go.RowKit Kit TableMath Low StrT RuleT RefRule RuleK MapT
open Go.Sort (grow)
set_option linter.unusedVariables false
set_option maxRecDepth 100000
theorem below_drewN (w : World) (q : Nat) : Below w.heap.size w (w.drewN q) := ⟨rfl,rfl,rfl,Nat.le_refl _,fun _ _ => rfl⟩
theorem cut_any (s A B : ByteArray) (hA : A.data.toList = (cutT s.data.toList).1) (hB : B.data.toList = (cutT s.data.toList).2) (w : World) (hz : s.size ≤ 2097152) (hm : MacT.Mx w) :
  Calls Tryz.prog 130 #[.string s,.string ⟨#[126]⟩] w fun e w' => ∃ f : Bool,e = .returned (.tuple #[.string A,.string B,.bool f]) ∧ Below w.heap.size w w' := by
 obtain ⟨m,hm⟩ := hm
 refine (Tryz.strings_Cut s ⟨#[126]⟩ m w (by omega) hm).mono ?_
 rintro e w' ⟨rfl,n,rfl⟩
 refine ⟨(Lib.cut s.data.toList [126]).2.2,?_,below_drewN w n⟩
 rw [show (⟨#[126]⟩ : ByteArray).data.toList = [126] from rfl,(cut_is _).1,(cut_is _).2,← hA,← hB,← str_of (s := A) rfl,← str_of (s := B) rfl]
theorem pre_yes (s R : ByteArray) (h : s.data.toList.take 1 = [64]) (hR : R = ⟨(s.data.toList.drop 1).toArray⟩) (w : World) :
  Calls Tryz.prog 149 #[.string s,.string ⟨#[64]⟩] w fun e w' => e = .returned (.tuple #[.string R,.bool true]) ∧ w = w' := by
 refine (Tryz.strings_CutPrefix s ⟨#[64]⟩ w).mono ?_
 rintro e w' ⟨rfl,rfl⟩
 refine ⟨?_,rfl⟩
 have hp : Lib.hasPrefix s.data.toList [64] = true := by
  match hl : s.data.toList,h with
  | c :: r,h =>
    have : c = 64 := (List.cons.inj h).1
    subst this
    rfl
 unfold Lib.trimPrefix
 rw [show (⟨#[64]⟩ : ByteArray).data.toList = [64] from rfl,hp,hR]
 rfl
theorem pre_no (s : ByteArray) (h : s.data.toList.take 1 ≠ [64]) (w : World) :
  Calls Tryz.prog 149 #[.string s,.string ⟨#[64]⟩] w fun e w' => e = .returned (.tuple #[.string s,.bool false]) ∧ w = w' := by
 refine (Tryz.strings_CutPrefix s ⟨#[64]⟩ w).mono ?_
 rintro e w' ⟨rfl,rfl⟩
 refine ⟨?_,rfl⟩
 have hp : Lib.hasPrefix s.data.toList [64] = false := by
  match hl : s.data.toList,h with
  | [],h => rfl
  | c :: r,h =>
    have : c ≠ 64 := fun e => h (by rw [e]; rfl)
    simp [Lib.hasPrefix,List.isPrefixOf]
    exact fun h => this h.symm
 unfold Lib.trimPrefix
 rw [show (⟨#[64]⟩ : ByteArray).data.toList = [64] from rfl,hp,if_neg Bool.false_ne_true,← str_of (s := s) rfl]
set_option maxHeartbeats 1000000 in
theorem bits_any (s : ByteArray) (w : World) (hz : s.size ≤ 2097152) :
  Calls Tryz.prog 129 #[.string s] w fun e w' => e = .returned (.tuple #[.int .u64 (((maskD s.data.toList).getD 0 : Nat) : Int),.bool (maskD s.data.toList).isSome]) ∧ Below w.heap.size w w' := by
 by_cases h : s.data.toList.take 1 = [64]
 · obtain ⟨R,hR⟩ : ∃ R : ByteArray,R = ⟨(s.data.toList.drop 1).toArray⟩ := ⟨_,rfl⟩
   have C := Lib.hid (pre_yes s R h hR w)
   have hRd : R.data.toList = s.data.toList.drop 1 := by rw [hR]
   have hRz : R.size ≤ 2097152 := by
    have h1 : R.data.toList.length = R.size := size_l
    have h2 : s.data.toList.length = s.size := size_l
    rw [hRd,List.length_drop] at h1
    omega
   obtain ⟨e1,e2⟩ := mask_at h hRd
   have CC := Lib.hid (TableM.cat_any R w (by omega))
   rw [← e1,← e2] at CC
   clear h hR hRd e1 e2
   obtain ⟨m,hm⟩ : ∃ m : Int,m = (((maskD s.data.toList).getD 0 : Nat) : Int) := ⟨_,rfl⟩
   obtain ⟨b,hb⟩ : ∃ b,b = (maskD s.data.toList).isSome := ⟨_,rfl⟩
   rw [← hm,← hb] at CC ⊢
   clear hm hb
   go_enter Tryz.func129,Tryz.ntmps129
   go_wp2_with fail
   refine C.out.mono ?_
   rintro e w1 ⟨rfl,rfl⟩
   go_wp2_with fail
   refine CC.out.mono ?_
   rintro e w2 ⟨rfl,hb2⟩
   go_wp2_with fail
   go_ret2
   exact ⟨rfl,hb2⟩
 · have C := Lib.hid (pre_no s h w)
   have CF := Lib.hid (TableM.find_any s w (by omega))
   by_cases hf : findB (lowL s.data.toList) = true
   · obtain ⟨id,hid,hv⟩ := find_id hf
     rw [hf,hv] at CF
     obtain ⟨T,hT⟩ : ∃ T : ByteArray,T = ⟨(lowL s.data.toList).toArray⟩ := ⟨_,rfl⟩
     have CL := Lib.hid (fun W => (hT ▸ LowN.lower_any s W (by unfold maxLen; omega) : Calls Tryz.prog 151 #[.string s] W fun e w' => e = .returned (.string T) ∧ Below W.heap.size W w'))
     by_cases hsm : lowL s.data.toList = s.data.toList
     · have hTs : T = s := by rw [hT,hsm]
       obtain ⟨e1,e2⟩ := mask_some h ⟨hf,hsm⟩ id hv
       rw [e1,e2]
       have HW := Lib.hid (shl_one id hid)
       have HI := hid
       subst hTs
       have hq : (T.toList != T.toList) = false := bne_self_eq_false _
       clear hf hv hsm hT h e1 e2
       go_enter Tryz.func129,Tryz.ntmps129
       go_wp2_with fail
       refine C.out.mono ?_
       rintro e w1 ⟨rfl,rfl⟩
       go_wp2_with fail
       refine CF.out.mono ?_
       rintro e w2 ⟨rfl,hb2⟩
       go_wp2_with fail
       refine (CL.out _).mono ?_
       rintro e w3 ⟨rfl,hb3⟩
       go_wp2_with fail
       go_ret2
       exact ⟨ret_mb HW.out rfl,hb2.trans (hb3.mono hb2.size)⟩
     · obtain ⟨e1,e2⟩ := mask_none h (fun hh => hsm hh.2)
       rw [e1,e2]
       have hq : (T.toList == s.toList) = false := by
        rw [ByteArray.toList_eq,ByteArray.toList_eq,beq_eq_false_iff_ne,hT]
        exact hsm
       clear hf hv hsm hT h e1 e2
       go_enter Tryz.func129,Tryz.ntmps129
       go_wp2_with fail
       refine C.out.mono ?_
       rintro e w1 ⟨rfl,rfl⟩
       go_wp2_with fail
       refine CF.out.mono ?_
       rintro e w2 ⟨rfl,hb2⟩
       go_wp2_with fail
       refine (CL.out _).mono ?_
       rintro e w3 ⟨rfl,hb3⟩
       go_wp2_with fail
       go_ret2
       exact ⟨rfl,hb2.trans (hb3.mono hb2.size)⟩
   · obtain ⟨e1,e2⟩ := mask_none h (fun hh => hf hh.1)
     rw [e1,e2]
     have hf' : findB (lowL s.data.toList) = false := by simpa using hf
     rw [hf'] at CF
     clear hf hf' h e1 e2
     go_enter Tryz.func129,Tryz.ntmps129
     go_wp2_with fail
     refine C.out.mono ?_
     rintro e w1 ⟨rfl,rfl⟩
     go_wp2_with fail
     refine CF.out.mono ?_
     rintro e w2 ⟨rfl,hb2⟩
     go_wp2_with fail
     go_ret2
     exact ⟨rfl,hb2⟩
structure Rm (w : World) (g : Nat) (w1 : World) : Prop where
 b : Below w.heap.size w w1
 g0 : w.heap.size ≤ g
 h : w1.heap[g]? = some (.cells #[.int .u8 0,.string ⟨#[]⟩,.bool false,.bool false,.int .u64 0] 29 (0,0))
theorem Rm.new (w : World) : Rm w w.heap.size (w.alloc (.cells #[.int .u8 0,.string ⟨#[]⟩,.bool false,.bool false,.int .u64 0] 29)) := ⟨Kit.below1 w _,Nat.le_refl _,heap_alloc_last w _⟩
theorem Rm.lt {w w1 : World} {g : Nat} (h : Rm w g w1) : g < w1.heap.size := (Array.getElem?_eq_some_iff.1 h.h).1
theorem Rm.keep {w w1 w2 : World} {g : Nat} (h : Rm w g w1) (hb : Below w1.heap.size w1 w2) : Rm w g w2 := ⟨h.b.trans (hb.mono h.b.size),h.g0,(hb.block _ h.lt).trans h.h⟩
theorem ans_told (o : Option RV) : ∃ (k : Int) (S : ByteArray) (a b : Bool) (m : Int) (ok : Bool),∀ e,ansR o e ↔ e = .returned (.tuple #[.agg #[.int .u8 k,.string S,.bool a,.bool b,.int .u64 m],.bool ok]) :=
 ⟨_,_,_,_,_,_,fun e => Iff.rfl⟩
theorem rec_yes {s : List UInt8} (k : Nat) (h : MacM.rightB s = true) : (if MacM.rightB s then some (⟨k,s,false,false,0⟩ : RV) else none) = some ⟨k,s,false,false,0⟩ := if_pos h
theorem rec_no {s : List UInt8} (k : Nat) (h : MacM.rightB s = false) : (if MacM.rightB s then some (⟨k,s,false,false,0⟩ : RV) else none) = none := if_neg (by rw [h]; exact Bool.false_ne_true)
set_option maxHeartbeats 1000000 in
theorem record_any (k : Nat) (s : ByteArray) (w : World) (hz : s.size ≤ 1048576) (hg : Gw w) :
  Calls Tryz.prog 98 #[.int .u8 (k : Int),.string s] w fun e w' => ansR (if MacM.rightB s.data.toList then some ⟨k,s.data.toList,false,false,0⟩ else none) e ∧ Below w.heap.size w w' := by
 have C := Lib.hid (fun W hW => MacT.right_any s W hz (Gw.m hW) (Gw.n hW))
 have HG := Lib.hid hg
 obtain ⟨o,ho⟩ : ∃ o,o = (if MacM.rightB s.data.toList then some (⟨k,s.data.toList,false,false,0⟩ : RV) else none) := ⟨_,rfl⟩
 rw [← ho]
 obtain ⟨B,hB⟩ : ∃ B,B = MacM.rightB s.data.toList := ⟨_,rfl⟩
 rw [← hB] at C
 have HP := Lib.hid (Rm.new w)
 have HC0 := Lib.hid (rule_cs 0 ⟨#[]⟩ false false 0)
 have HO0 := Lib.hid (rule_one 0 ⟨#[]⟩ false false 0)
 have HC1 := Lib.hid (rule_cs (k : Int) s false false 0)
 have HO1 := Lib.hid (rule_one (k : Int) s false false 0)
 have b0 := build_no
 have b1 := build_ks
 clear hg
 cases B with
 | true =>
   have HN := Lib.hid (ho.trans (rec_yes k hB.symm))
   clear hB ho
   go_enter Tryz.func98,Tryz.ntmps98
   go_wp2_with fail
   refine (C.out _ (HG.out.keep HP.out.b)).mono ?_
   rintro e w1 ⟨rfl,hb1⟩
   have HP1 := Lib.hid (HP.out.keep hb1)
   clear hb1
   go_wp2_with (with_reducible refine wpList_store_row rfl 29 (.tmp 4) (.tmp 12) rfl w.heap.size #[.int .u8 (k : Int),.string s,.bool false,.bool false,.int .u64 0] rfl rfl 29 _ HP1.out.h HC1.out rfl HO1.out ?_)
   exact bodyPost_ret (results_cell_slot rfl _ _ w.heap.size 29 #[.int .u8 (k : Int),.string s,.bool false,.bool false,.int .u64 0] (0,0) _ (.bool true) rfl (setRow_heap _ w.heap.size _ _ _ _ HP1.out.h) Tryz.underlying29 rfl HC1.out rfl) rfl ⟨ans_of HN.out rfl (str_of rfl) rfl rfl rfl,below_setRow HP1.out.b (Nat.le_refl _) _⟩
 | false =>
   have HN := Lib.hid (ho.trans (rec_no k hB.symm))
   clear hB ho
   go_enter Tryz.func98,Tryz.ntmps98
   go_wp2_with fail
   refine (C.out _ (HG.out.keep HP.out.b)).mono ?_
   rintro e w1 ⟨rfl,hb1⟩
   have HP1 := Lib.hid (HP.out.keep hb1)
   clear hb1
   go_wp2_with (with_reducible refine wpList_store_row rfl 29 (.tmp 4) (.tmp 9) rfl w.heap.size #[.int .u8 0,.string ⟨#[]⟩,.bool false,.bool false,.int .u64 0] rfl rfl 29 _ HP1.out.h HC0.out rfl HO0.out ?_)
   exact bodyPost_ret (results_cell_slot rfl _ _ w.heap.size 29 #[.int .u8 0,.string ⟨#[]⟩,.bool false,.bool false,.int .u64 0] (0,0) _ (.bool false) rfl (setRow_heap _ w.heap.size _ _ _ _ HP1.out.h) Tryz.underlying29 rfl HC0.out rfl) rfl ⟨ans_no HN.out,below_setRow HP1.out.b (Nat.le_refl _) _⟩
theorem com_yes {o : Option Nat} (k : Nat) (h : o.isSome = true) : (o.map fun m => (⟨k,[],false,false,m⟩ : RV)) = some ⟨k,[],false,false,o.getD 0⟩ := by
 cases o with
 | none => cases h
 | some m => rfl
theorem com_no {o : Option Nat} (k : Nat) (h : o.isSome = false) : (o.map fun m => (⟨k,[],false,false,m⟩ : RV)) = none := by
 cases o with
 | none => rfl
 | some m => cases h
set_option maxHeartbeats 1000000 in
theorem commands_any (k : Nat) (s : ByteArray) (w : World) (hz : s.size ≤ 2097152) :
  Calls Tryz.prog 99 #[.int .u8 (k : Int),.string s] w fun e w' => ansR ((maskD s.data.toList).map fun m => ⟨k,[],false,false,m⟩) e ∧ Below w.heap.size w w' := by
 have C := Lib.hid (fun W => bits_any s W hz)
 obtain ⟨o,ho⟩ : ∃ o,o = maskD s.data.toList := ⟨_,rfl⟩
 rw [← ho] at C ⊢
 clear ho
 obtain ⟨m,hm⟩ : ∃ m : Int,m = ((o.getD 0 : Nat) : Int) := ⟨_,rfl⟩
 rw [← hm] at C
 obtain ⟨B,hB⟩ : ∃ B,B = o.isSome := ⟨_,rfl⟩
 rw [← hB] at C
 have HP := Lib.hid (Rm.new w)
 have HC0 := Lib.hid (rule_cs 0 ⟨#[]⟩ false false 0)
 have HO0 := Lib.hid (rule_one 0 ⟨#[]⟩ false false 0)
 have HC1 := Lib.hid (rule_cs (k : Int) ⟨#[]⟩ false false m)
 have HO1 := Lib.hid (rule_one (k : Int) ⟨#[]⟩ false false m)
 have b0 := build_no
 have b1 := build_km
 have HM := Lib.hid hm
 clear hm
 cases B with
 | true =>
   have HN := Lib.hid (com_yes k hB.symm)
   clear hB
   go_enter Tryz.func99,Tryz.ntmps99
   go_wp2_with fail
   refine (C.out _).mono ?_
   rintro e w1 ⟨rfl,hb1⟩
   have HP1 := Lib.hid (HP.out.keep hb1)
   clear hb1
   go_wp2_with (with_reducible refine wpList_store_row rfl 29 (.tmp 4) (.tmp 18) rfl w.heap.size #[.int .u8 (k : Int),.string ⟨#[]⟩,.bool false,.bool false,.int .u64 m] rfl rfl 29 _ HP1.out.h HC1.out rfl HO1.out ?_)
   exact bodyPost_ret (results_cell_slot rfl _ _ w.heap.size 29 #[.int .u8 (k : Int),.string ⟨#[]⟩,.bool false,.bool false,.int .u64 m] (0,0) _ (.bool true) rfl (setRow_heap _ w.heap.size _ _ _ _ HP1.out.h) Tryz.underlying29 rfl HC1.out rfl) rfl ⟨ans_of HN.out rfl rfl rfl rfl HM.out,below_setRow HP1.out.b (Nat.le_refl _) _⟩
 | false =>
   have HN := Lib.hid (com_no k hB.symm)
   clear hB
   go_enter Tryz.func99,Tryz.ntmps99
   go_wp2_with fail
   refine (C.out _).mono ?_
   rintro e w1 ⟨rfl,hb1⟩
   have HP1 := Lib.hid (HP.out.keep hb1)
   clear hb1
   go_wp2_with (with_reducible refine wpList_store_row rfl 29 (.tmp 4) (.tmp 15) rfl w.heap.size #[.int .u8 0,.string ⟨#[]⟩,.bool false,.bool false,.int .u64 0] rfl rfl 29 _ HP1.out.h HC0.out rfl HO0.out ?_)
   exact bodyPost_ret (results_cell_slot rfl _ _ w.heap.size 29 #[.int .u8 0,.string ⟨#[]⟩,.bool false,.bool false,.int .u64 0] (0,0) _ (.bool false) rfl (setRow_heap _ w.heap.size _ _ _ _ HP1.out.h) Tryz.underlying29 rfl HC0.out rfl) rfl ⟨ans_no HN.out,below_setRow HP1.out.b (Nat.le_refl _) _⟩
structure Rm2 (w : World) (c : Array Value) (w1 : World) : Prop where
 b : Below w.heap.size w w1
 x : w1.heap[w.heap.size]? = some (.cells c 29 (0,0))
 h : w1.heap[w.heap.size + 1]? = some (.cells #[.int .u8 0,.string ⟨#[]⟩,.bool false,.bool false,.int .u64 0] 29 (0,0))
theorem Rm2.new (w : World) (c : Array Value) : Rm2 w c ((w.alloc (.cells c 29)).alloc (.cells #[.int .u8 0,.string ⟨#[]⟩,.bool false,.bool false,.int .u64 0] 29)) :=
 ⟨(Kit.below1 w _).alloc (Kit.below1 w _).size _,by rw [(Kit.below1 (w.alloc _) _).block _ (by simp)]; exact heap_alloc_last w _,by have := heap_alloc_last (w.alloc (.cells c 29)) (.cells #[.int .u8 0,.string ⟨#[]⟩,.bool false,.bool false,.int .u64 0] 29); simpa using this⟩
theorem Rm2.lt {w w1 : World} {c : Array Value} (h : Rm2 w c w1) : w.heap.size + 1 < w1.heap.size := (Array.getElem?_eq_some_iff.1 h.h).1
theorem Rm2.keep {w w1 w2 : World} {c : Array Value} (h : Rm2 w c w1) (hb : Below w1.heap.size w1 w2) : Rm2 w c w2 :=
 ⟨h.b.trans (hb.mono h.b.size),by rw [hb.block _ (by have := h.lt; omega)]; exact h.x,by rw [hb.block _ h.lt]; exact h.h⟩
theorem Rm2.put {w w1 : World} {k m : Int} {S0 : ByteArray} {a b : Bool} (h : Rm2 w #[.int .u8 k,.string S0,.bool a,.bool b,.int .u64 m] w1) (S : ByteArray) : Rm2 w #[.int .u8 k,.string S,.bool a,.bool b,.int .u64 m] (w1.setCell ⟨w.heap.size,1,none⟩ (.string S)) :=
 ⟨h.b.setCell (p := ⟨w.heap.size,1,none⟩) (Nat.le_refl _) _,heap_setCell_same _ _ 1 _ _ (.string S) h.x,by rw [heap_setCell_other _ _ _ _ (show w.heap.size + 1 ≠ w.heap.size by omega)]; exact h.h⟩
theorem Rm2.cells {w w1 : World} {k m : Int} {S : ByteArray} {a b : Bool} (h : Rm2 w #[.int .u8 k,.string S,.bool a,.bool b,.int .u64 m] w1) :
  w1.cell? ⟨w.heap.size,0,none⟩ = some (.int .u8 k) ∧ w1.cell? ⟨w.heap.size,1,none⟩ = some (.string S) ∧ w1.cell? ⟨w.heap.size,2,none⟩ = some (.bool a) ∧ w1.cell? ⟨w.heap.size,3,none⟩ = some (.bool b) ∧ w1.cell? ⟨w.heap.size,4,none⟩ = some (.int .u64 m) ∧ w1.frozen? ⟨w.heap.size,1,none⟩ = false := by
 refine ⟨?_,?_,?_,?_,?_,frozen_of_row _ _ _ _ _ h.x⟩ <;> rw [cell_of_row _ _ _ _ _ _ h.x] <;> rfl
set_option maxHeartbeats 1000000 in
theorem pattern_code (k : Nat) (S : ByteArray) (a b : Bool) (w : World) (hs : S.size ≤ 2097152) :
  Calls Tryz.prog 101 #[.agg #[.int .u8 (k : Int),.string ⟨#[]⟩,.bool a,.bool b,.int .u64 0],.string S] w fun e w' => ansR (patD k S.data.toList a b) e ∧ Below w.heap.size w w' := by
 have C := Lib.hid (fun W => NumW.word_any S W (by unfold maxLen; omega))
 obtain ⟨B,hB⟩ : ∃ B,B = NumW.wordB S.data.toList := ⟨_,rfl⟩
 rw [← hB] at C
 have HC0 := Lib.hid (rule_cs 0 ⟨#[]⟩ false false 0)
 have HO0 := Lib.hid (rule_one 0 ⟨#[]⟩ false false 0)
 have HC1 := Lib.hid (rule_cs (k : Int) S a b 0)
 have HO1 := Lib.hid (rule_one (k : Int) S a b 0)
 have b0 := build_no
 have HP := Lib.hid (Rm2.new w #[.int .u8 (k : Int),.string ⟨#[]⟩,.bool a,.bool b,.int .u64 0])
 cases B with
 | true =>
   have HN := Lib.hid (patD_yes (k := k) (r := a) (w := b) hB.symm)
   clear hB
   go_enter Tryz.func101,Tryz.ntmps101
   go_wp2_with fail
   generalize (w.alloc _).alloc _ = w1 at HP ⊢
   refine (C.out _).mono ?_
   rintro e w2 ⟨rfl,rfl⟩
   obtain ⟨c0,c1,c2,c3,c4,f1⟩ := HP.out.cells
   have HP2 := Lib.hid (HP.out.put S)
   clear HP
   go_upto_region 4 with fail
   generalize w1.setCell _ _ = w2 at HP2 ⊢
   clear c0 c1 c2 c3 c4 f1
   obtain ⟨c0,c1,c2,c3,c4,f1⟩ := HP2.out.cells
   go_wp2_with (with_reducible refine wpList_store_row rfl 29 (.tmp 4) (.tmp 12) rfl (w.heap.size + 1) #[.int .u8 (k : Int),.string S,.bool a,.bool b,.int .u64 0] rfl rfl 29 _ HP2.out.h HC1.out rfl HO1.out ?_)
   exact bodyPost_ret (results_cell_slot rfl _ _ (w.heap.size + 1) 29 #[.int .u8 (k : Int),.string S,.bool a,.bool b,.int .u64 0] (0,0) _ (.bool true) rfl (setRow_heap _ (w.heap.size + 1) _ _ _ _ HP2.out.h) Tryz.underlying29 rfl HC1.out rfl) rfl ⟨ans_of HN.out rfl (str_of rfl) rfl rfl rfl,below_setRow HP2.out.b (by omega) _⟩
 | false =>
   have HN := Lib.hid (patD_no (k := k) (r := a) (w := b) hB.symm)
   clear hB
   go_enter Tryz.func101,Tryz.ntmps101
   go_wp2_with fail
   generalize (w.alloc _).alloc _ = w1 at HP ⊢
   refine (C.out _).mono ?_
   rintro e w2 ⟨rfl,rfl⟩
   go_wp2_with (with_reducible refine wpList_store_row rfl 29 (.tmp 4) (.tmp 9) rfl (w.heap.size + 1) #[.int .u8 0,.string ⟨#[]⟩,.bool false,.bool false,.int .u64 0] rfl rfl 29 _ HP.out.h HC0.out rfl HO0.out ?_)
   exact bodyPost_ret (results_cell_slot rfl _ _ (w.heap.size + 1) 29 #[.int .u8 0,.string ⟨#[]⟩,.bool false,.bool false,.int .u64 0] (0,0) _ (.bool false) rfl (setRow_heap _ (w.heap.size + 1) _ _ _ _ HP.out.h) Tryz.underlying29 rfl HC0.out rfl) rfl ⟨ans_no HN.out,below_setRow HP.out.b (by omega) _⟩
theorem build_kr (k : Int) (a : Bool) (w : World) : (Instr.build 29 #[(0,.int .u8 k),(2,.bool a)]).run Tryz.prog w = .ok (.agg #[.int .u8 k,.string ⟨#[]⟩,.bool a,.bool false,.int .u64 0]) w := run_build w 29 _ _ (by kernel_rfl)
theorem build_kw (k : Int) (a : Bool) (w : World) : (Instr.build 29 #[(0,.int .u8 k),(3,.bool a)]).run Tryz.prog w = .ok (.agg #[.int .u8 k,.string ⟨#[]⟩,.bool false,.bool a,.int .u64 0]) w := run_build w 29 _ _ (by kernel_rfl)
theorem build_krw (k : Int) (a b : Bool) (w : World) : (Instr.build 29 #[(0,.int .u8 k),(2,.bool a),(3,.bool b)]).run Tryz.prog w = .ok (.agg #[.int .u8 k,.string ⟨#[]⟩,.bool a,.bool b,.int .u64 0]) w := run_build w 29 _ _ (by kernel_rfl)
set_option maxHeartbeats 8000000 in
theorem heads_any (w : World) : Calls Tryz.prog 131 #[] w fun e w' => e = .returned (.map (some w.heap.size)) ∧ MapAt w' w.heap.size (mapV headsL) ∧ Below w.heap.size w w' := by
 have hmm := @run_makeMap Tryz.prog
 have hM : MapAt (w.alloc (.map #[] 0)) w.heap.size ((mapV headsL).take 0) := MapAt.new w
 have hB : Below w.heap.size w (w.alloc (.map #[] 0)) := Kit.below1 w _
 have b1 := build_kr
 have b2 := build_kw
 have b3 := build_krw
 go_enter Tryz.func131,Tryz.ntmps131
 go_upto_region 1 with fail
 apply wp_region_lit
 go_wp2_with (with_reducible refine wpList_insert_lit rfl 118 (.tmp 1) _ _ rfl 9 29 Tryz.underlying118 Tryz.underlying9 w.heap.size w.heap.size rfl (mapV headsL) _ hM heads_nodup hB (Nat.le_refl _) (by kernel_rfl) ?_; clear hM hB; intro w1 hM hB)
 go_ret
 exact ⟨rfl,hM,hB⟩
theorem all_name : catV [97,108,108] = 72057594037927935 ∧ catB [97,108,108] = true := by decide +kernel
set_option maxHeartbeats 8000000 in
theorem whole_any (w : World) : Calls Tryz.prog 97 #[] w fun e w' => ∃ b,e = .returned (.map (some b)) ∧ MapAt w' b (mapV wholeL) ∧ Below w.heap.size w w' := by
 have CC := Lib.hid (TableM.cat_any ⟨#[97,108,108]⟩ w (by decide))
 rw [show (⟨#[97,108,108]⟩ : ByteArray).data.toList = [97,108,108] from rfl,all_name.1,all_name.2] at CC
 have hmm := @run_makeMap Tryz.prog
 have b1 := build_k
 have b2 := build_km
 have b3 := build_ks
 have b4 := build_ksrw
 go_enter Tryz.func97,Tryz.ntmps97
 go_wp2_with fail
 refine CC.out.mono ?_
 rintro e w1 ⟨rfl,hb1⟩
 have HS := Lib.hid hb1.size
 have hM : MapAt (w1.alloc (.map #[] 0)) w1.heap.size ((mapV wholeL).take 0) := MapAt.new w1
 have hB : Below w.heap.size w (w1.alloc (.map #[] 0)) := hb1.alloc hb1.size _
 clear hb1 CC
 go_upto_region 2 with fail
 apply wp_region_lit
 go_wp2_with (with_reducible refine wpList_insert_lit rfl 118 (.tmp 7) _ _ rfl 9 29 Tryz.underlying118 Tryz.underlying9 w.heap.size w1.heap.size rfl (mapV wholeL) _ hM whole_nodup hB HS.out (by kernel_rfl) ?_; clear hM hB; intro w2 hM hB)
 go_ret
 exact ⟨_,rfl,hM,hB⟩
theorem rule_zero (W : World) : (zeroValue 29).run Tryz.prog W = .ok (.agg #[.int .u8 0,.string ⟨#[]⟩,.bool false,.bool false,.int .u64 0]) W := by
 rfl
def AtL (L : List (List UInt8 × RV)) (s : List UInt8) (k : Int) (S : ByteArray) (a b : Bool) (m : Int) (ok : Bool) : Prop := ok = (atL L s).isSome ∧ (Value.agg #[.int .u8 k,.string S,.bool a,.bool b,.int .u64 m]) = ((atL L s).getD noR).agg
theorem look_any {L : List (List UInt8 × RV)} {s : ByteArray} {k m : Int} {S : ByteArray} {a b ok : Bool} (h : AtL L s.data.toList k S a b m ok) {W : World} {g : Nat} (hM : MapAt W g (mapV L)) :
  (Instr.lookup 118 (.map (some g)) (.string s) true).run Tryz.prog W = .ok (.tuple #[.agg #[.int .u8 k,.string S,.bool a,.bool b,.int .u64 m],.bool ok]) W := by
 obtain ⟨h1,h2⟩ := h
 rw [h1,h2]
 cases ha : atL L s.data.toList with
 | some v => exact lookup_ok Tryz.underlying118 Tryz.underlying9 hM s v.agg (get_yes ha)
 | none => exact lookup_no Tryz.underlying118 Tryz.underlying9 hM s noR.agg (rule_zero W) (get_no ha)
theorem at_no {L : List (List UInt8 × RV)} {s : List UInt8} (h : atL L s = none) : AtL L s 0 ⟨#[]⟩ false false 0 false := by
 unfold AtL
 rw [h]
 exact ⟨rfl,rfl⟩
theorem at_yes {L : List (List UInt8 × RV)} {s : List UInt8} {v : RV} (h : atL L s = some v) : AtL L s (v.kind : Int) ⟨v.s.toArray⟩ v.r v.w (v.mask : Int) true := by
 unfold AtL
 rw [h]
 exact ⟨rfl,rfl⟩
theorem keys_no {l A : List UInt8} (hA : A = (cutT l).1) (h : atL headsL A = none) : keysD l = none := by
 unfold keysD
 rw [← hA,h]
theorem keys_yes {l A B : List UInt8} (hA : A = (cutT l).1) (hB : B = (cutT l).2) {v : RV} (h : atL headsL A = some v) : keysD l = patD 10 B v.r v.w := by
 unfold keysD
 rw [← hA,← hB,h]
theorem cut_len : ∀ l : List UInt8,(cutT l).1.length ≤ l.length ∧ (cutT l).2.length ≤ l.length
  | [] => ⟨Nat.le_refl _,Nat.le_refl _⟩
  | c :: r => by
    obtain ⟨h1,h2⟩ := cut_len r
    by_cases hc : c = 126
    · rw [show cutT (c :: r) = ([],r) from if_pos hc]
      exact ⟨Nat.zero_le _,Nat.le_succ _⟩
    · rw [show cutT (c :: r) = (c :: (cutT r).1,(cutT r).2) from if_neg hc]
      exact ⟨Nat.succ_le_succ h1,Nat.le_succ_of_le h2⟩
structure Rm3 (w : World) (gr : Nat) (c : Array Value) (w1 : World) : Prop where
 r : Rm w w.heap.size w1
 x : w1.heap[gr]? = some (.cells c 29 (0,0))
theorem Rm3.new {w w1 : World} {c : Array Value} (h : Rm w w.heap.size w1) : Rm3 w w1.heap.size c (w1.alloc (.cells c 29)) := ⟨h.keep (Kit.below1 _ _),heap_alloc_last _ _⟩
theorem Rm3.cells {w w1 : World} {gr : Nat} {k m : Int} {S : ByteArray} {a b : Bool} (h : Rm3 w gr #[.int .u8 k,.string S,.bool a,.bool b,.int .u64 m] w1) :
  w1.cell? ⟨gr,0,none⟩ = some (.int .u8 k) ∧ w1.cell? ⟨gr,1,none⟩ = some (.string S) ∧ w1.cell? ⟨gr,2,none⟩ = some (.bool a) ∧ w1.cell? ⟨gr,3,none⟩ = some (.bool b) ∧ w1.cell? ⟨gr,4,none⟩ = some (.int .u64 m) := by
 refine ⟨?_,?_,?_,?_,?_⟩ <;> rw [cell_of_row _ _ _ _ _ _ h.x] <;> rfl
set_option maxHeartbeats 4000000 in
theorem keys_any (s : ByteArray) (w : World) (hz : s.size ≤ 2097152) (hg : Gw w) :
  Calls Tryz.prog 100 #[.string s] w fun e w' => ansR (keysD s.data.toList) e ∧ Below w.heap.size w w' := by
 obtain ⟨A,hA⟩ : ∃ A : ByteArray,A = ⟨(cutT s.data.toList).1.toArray⟩ := ⟨_,rfl⟩
 obtain ⟨B,hB⟩ : ∃ B : ByteArray,B = ⟨(cutT s.data.toList).2.toArray⟩ := ⟨_,rfl⟩
 have hAd : A.data.toList = (cutT s.data.toList).1 := by rw [hA]
 have hBd : B.data.toList = (cutT s.data.toList).2 := by rw [hB]
 have hBz : B.size ≤ 2097152 := by
  have h1 : B.data.toList.length = B.size := size_l
  have h2 : s.data.toList.length = s.size := size_l
  have h3 := (cut_len s.data.toList).2
  rw [← hBd] at h3
  omega
 have CC := Lib.hid (fun W hW => cut_any s A B hAd hBd W hz hW)
 have HP := Lib.hid (Rm.new w)
 have HG := Lib.hid hg
 have CH := Lib.hid (fun W => heads_any W)
 have HC0 := Lib.hid (rule_cs 0 ⟨#[]⟩ false false 0)
 have HO0 := Lib.hid (rule_one 0 ⟨#[]⟩ false false 0)
 have b0 := build_no
 obtain ⟨l,hl⟩ : ∃ l,l = s.data.toList := ⟨_,rfl⟩
 rw [← hl] at hAd hBd ⊢
 clear hg hA hB hl hz
 cases ha : atL headsL A.data.toList with
 | none =>
   have HLk := Lib.hid (fun (W : World) (g : Nat) (hM : MapAt W g (mapV headsL)) => look_any (at_no ha) hM)
   have HN := Lib.hid (keys_no hAd ha)
   clear ha hAd hBd
   go_enter Tryz.func100,Tryz.ntmps100
   go_wp2_with fail
   refine (CC.out _ (HG.out.keep HP.out.b).m).mono ?_
   rintro e w1 ⟨f,rfl,hb1⟩
   have HP1 := Lib.hid (HP.out.keep hb1)
   clear hb1 HP CC
   go_wp2_with fail
   refine (CH.out _).mono ?_
   rintro e w2 ⟨rfl,hM,hb2⟩
   have HP2 := Lib.hid (HP1.out.keep hb2)
   have hlk := HLk.out _ _ hM
   have HP3 := Lib.hid (Rm3.new (c := #[.int .u8 0,.string ⟨#[]⟩,.bool false,.bool false,.int .u64 0]) HP2.out)
   clear hM hb2 CH HP1
   go_upto_region 3 with fail
   generalize w2.alloc _ = w3 at HP3 ⊢
   clear hlk
   go_wp2_with (with_reducible refine wpList_store_row rfl 29 (.tmp 2) (.tmp 23) rfl w.heap.size #[.int .u8 0,.string ⟨#[]⟩,.bool false,.bool false,.int .u64 0] rfl rfl 29 _ HP3.out.r.h HC0.out rfl HO0.out ?_)
   exact bodyPost_ret (results_cell_slot rfl _ _ w.heap.size 29 #[.int .u8 0,.string ⟨#[]⟩,.bool false,.bool false,.int .u64 0] (0,0) _ (.bool false) rfl (setRow_heap _ w.heap.size _ _ _ _ HP3.out.r.h) Tryz.underlying29 rfl HC0.out rfl) rfl ⟨ans_no HN.out,below_setRow HP3.out.r.b (Nat.le_refl _) _⟩
 | some v =>
   have hv := heads_has ha
   obtain ⟨a,hva⟩ : ∃ x,x = v.r := ⟨_,rfl⟩
   obtain ⟨b,hvb⟩ : ∃ x,x = v.w := ⟨_,rfl⟩
   rw [← hva,← hvb] at hv
   have hk := keys_yes hAd hBd ha
   rw [← hva,← hvb] at hk
   have HLk := Lib.hid (fun (W : World) (g : Nat) (hM : MapAt W g (mapV headsL)) => look_any (at_yes (v := ⟨10,[],a,b,0⟩) (by rw [ha,hv])) hM)
   have CP := Lib.hid (fun W => pattern_code 10 B a b W hBz)
   rw [← hk] at CP
   generalize keysD l = o at CP hk ⊢
   obtain ⟨vk,vs,va,vb,vm,ok,hI⟩ := ans_told o
   have HI := Lib.hid hI
   have HC1 := Lib.hid (rule_cs vk vs va vb vm)
   have HO1 := Lib.hid (rule_one vk vs va vb vm)
   clear ha hAd hBd hv hva hvb hk hI
   go_enter Tryz.func100,Tryz.ntmps100
   go_wp2_with fail
   refine (CC.out _ (HG.out.keep HP.out.b).m).mono ?_
   rintro e w1 ⟨f,rfl,hb1⟩
   have HP1 := Lib.hid (HP.out.keep hb1)
   clear hb1 HP CC
   go_wp2_with fail
   refine (CH.out _).mono ?_
   rintro e w2 ⟨rfl,hM,hb2⟩
   have HP2 := Lib.hid (HP1.out.keep hb2)
   have hlk := HLk.out _ _ hM
   have HP3 := Lib.hid (Rm3.new (c := #[.int .u8 10,.string ⟨#[]⟩,.bool a,.bool b,.int .u64 0]) HP2.out)
   clear hM hb2 CH HP1
   go_upto_region 3 with fail
   generalize w2.heap.size = gr at HP3 ⊢
   generalize w2.alloc _ = w3 at HP3 ⊢
   clear hlk HP2
   obtain ⟨c0,c1,c2,c3,c4⟩ := HP3.out.cells
   go_wp2_with fail
   refine (CP.out _).mono ?_
   rintro e w4 ⟨he,hb4⟩
   obtain rfl := (HI.out _).1 he
   have HP4 := Lib.hid (HP3.out.r.keep hb4)
   clear he hb4
   go_wp2_with (with_reducible refine wpList_store_row rfl 29 (.tmp 2) (.tmp 27) rfl w.heap.size #[.int .u8 vk,.string vs,.bool va,.bool vb,.int .u64 vm] rfl rfl 29 _ HP4.out.h HC1.out rfl HO1.out ?_)
   exact bodyPost_ret (results_cell_slot rfl _ _ w.heap.size 29 #[.int .u8 vk,.string vs,.bool va,.bool vb,.int .u64 vm] (0,0) _ (.bool ok) rfl (setRow_heap _ w.heap.size _ _ _ _ HP4.out.h) Tryz.underlying29 rfl HC1.out rfl) rfl ⟨(HI.out _).2 rfl,below_setRow HP4.out.b (Nat.le_refl _) _⟩
theorem rule_first (s R : ByteArray) (c : UInt8) (h : s.data.toList = c :: R.data.toList) : s.size = R.size + 1 ∧ s.toList.isEmpty = false ∧ s.extract 1 s.size = R ∧ ∀ W,(Instr.index 9 (.string s) (.int .i64 0)).run Tryz.prog W = .ok (.int .u8 (c.toNat : Int)) W := by
 have hz : s.size = R.size + 1 := by
  have h1 := congrArg List.length h
  rw [size_l,List.length_cons,size_l] at h1
  exact h1
 refine ⟨hz,?_,?_,fun W => MacT.idx_at s 0 c (by rw [h]; rfl) 0 rfl W⟩
 · rw [ByteArray.toList_eq,h]
   rfl
 · apply ByteArray.ext
   apply Array.toList_inj.1
   rw [Lib.extract_data,List.take_of_length_le (by rw [List.length_drop,size_l]; omega),h]
   rfl
theorem ne_int {c : UInt8} (n : Nat) (hn : n < 256) (h : c ≠ UInt8.ofNat n) : ((c.toNat : Int) == (n : Int)) = false := by
 rw [beq_eq_false_iff_ne]
 intro e
 have e2 : c.toNat = n := by omega
 exact h (by rw [← e2]; simp)
set_option maxHeartbeats 8000000 in
theorem rule_wide (s : ByteArray) (w : World) (hz : s.size ≤ 1048600) (hh : ∀ c r,s.data.toList = c :: r → c = 35 ∨ c = 33 → r.length ≤ 1048576) (hg : Gw w) : Calls Tryz.prog 61 #[.string s] w fun e w' => ansR (ruleD s.data.toList) e ∧ Below w.heap.size w w' := by
 have HP := Lib.hid (Rm.new w)
 have HG := Lib.hid hg
 have CW := Lib.hid (fun W => whole_any W)
 have HC0 := Lib.hid (rule_cs 0 ⟨#[]⟩ false false 0)
 have HO0 := Lib.hid (rule_one 0 ⟨#[]⟩ false false 0)
 have b0 := build_no
 have b1 := build_k
 have b2 := build_ks
 clear hg
 cases ha : atL wholeL s.data.toList with
 | some v =>
   have HN := Lib.hid (whole_yes ha)
   have hl := at_yes ha
   obtain ⟨vk,hvk⟩ : ∃ x : Int,x = (v.kind : Int) := ⟨_,rfl⟩
   obtain ⟨vs,hvs⟩ : ∃ x : ByteArray,x = ⟨v.s.toArray⟩ := ⟨_,rfl⟩
   obtain ⟨va,hva⟩ : ∃ x : Bool,x = v.r := ⟨_,rfl⟩
   obtain ⟨vb,hvb⟩ : ∃ x : Bool,x = v.w := ⟨_,rfl⟩
   obtain ⟨vm,hvm⟩ : ∃ x : Int,x = (v.mask : Int) := ⟨_,rfl⟩
   rw [← hvk,← hvs,← hva,← hvb,← hvm] at hl
   have HA := Lib.hid (ans_of HN.out hvk hvs hva hvb hvm)
   have HLk := Lib.hid (fun (W : World) (g : Nat) (hM : MapAt W g (mapV wholeL)) => look_any hl hM)
   have HC1 := Lib.hid (rule_cs vk vs va vb vm)
   have HO1 := Lib.hid (rule_one vk vs va vb vm)
   clear hl ha HN hvk hvs hva hvb hvm
   go_enter Tryz.func61,Tryz.ntmps61
   go_wp2_with fail
   refine (CW.out _).mono ?_
   rintro e w1 ⟨bm,rfl,hM,hb1⟩
   have hlk := HLk.out _ _ hM
   have HP3 := Lib.hid (Rm3.new (c := #[.int .u8 vk,.string vs,.bool va,.bool vb,.int .u64 vm]) (HP.out.keep hb1))
   clear hM hb1 CW HP
   go_upto_region 2 with fail
   generalize w1.heap.size = gr at HP3 ⊢
   generalize w1.alloc _ = w3 at HP3 ⊢
   clear hlk HLk
   obtain ⟨c0,c1,c2,c3,c4⟩ := HP3.out.cells
   go_wp2_with (with_reducible refine wpList_store_row rfl 29 (.tmp 2) (.tmp 14) rfl w.heap.size #[.int .u8 vk,.string vs,.bool va,.bool vb,.int .u64 vm] rfl rfl 29 _ HP3.out.r.h HC1.out rfl HO1.out ?_)
   exact bodyPost_ret (results_cell_slot rfl _ _ w.heap.size 29 #[.int .u8 vk,.string vs,.bool va,.bool vb,.int .u64 vm] (0,0) _ (.bool true) rfl (setRow_heap _ w.heap.size _ _ _ _ HP3.out.r.h) Tryz.underlying29 rfl HC1.out rfl) rfl ⟨HA.out,below_setRow HP3.out.r.b (Nat.le_refl _) _⟩
 | none =>
   have HLk := Lib.hid (fun (W : World) (g : Nat) (hM : MapAt W g (mapV wholeL)) => look_any (at_no ha) hM)
   match hl : s.data.toList with
   | [] =>
     have HN := Lib.hid rule_empty
     have he : s.toList.isEmpty = true := by rw [ByteArray.toList_eq,hl]; rfl
     clear ha hl
     go_enter Tryz.func61,Tryz.ntmps61
     go_wp2_with fail
     refine (CW.out _).mono ?_
     rintro e w1 ⟨bm,rfl,hM,hb1⟩
     have hlk := HLk.out _ _ hM
     have HP3 := Lib.hid (Rm3.new (c := #[.int .u8 0,.string ⟨#[]⟩,.bool false,.bool false,.int .u64 0]) (HP.out.keep hb1))
     clear hM hb1 CW HP
     go_upto_region 2 with fail
     generalize w1.heap.size = gr at HP3 ⊢
     generalize w1.alloc _ = w3 at HP3 ⊢
     clear hlk HLk
     go_wp2_with (with_reducible refine wpList_store_row rfl 29 (.tmp 2) (.tmp 17) rfl w.heap.size #[.int .u8 0,.string ⟨#[]⟩,.bool false,.bool false,.int .u64 0] rfl rfl 29 _ HP3.out.r.h HC0.out rfl HO0.out ?_)
     exact bodyPost_ret (results_cell_slot rfl _ _ w.heap.size 29 #[.int .u8 0,.string ⟨#[]⟩,.bool false,.bool false,.int .u64 0] (0,0) _ (.bool false) rfl (setRow_heap _ w.heap.size _ _ _ _ HP3.out.r.h) Tryz.underlying29 rfl HC0.out rfl) rfl ⟨ans_no HN.out,below_setRow HP3.out.r.b (Nat.le_refl _) _⟩
   | c :: r =>
     obtain ⟨R,hR⟩ : ∃ R : ByteArray,R = ⟨r.toArray⟩ := ⟨_,rfl⟩
     have hr : r = R.data.toList := by rw [hR]
     subst hr
     clear hR
     obtain ⟨hsz,he,hex,i0⟩ := rule_first s R c hl
     have HEx := Lib.hid hex
     clear hex
     have hRz : R.size ≤ 2097152 := by omega
     have hz2 : s.size ≤ 2097152 := by omega
     have hRw : c = 35 ∨ c = 33 → R.size ≤ 1048576 := fun e => by
      have h1 := hh c R.data.toList hl e
      have h2 : R.data.toList.length = R.size := size_l
      omega
     have hpos : 0 < s.size := by omega
     clear hsz
     rw [hl] at ha
     by_cases h62 : c = 62
     · subst h62
       have HN := Lib.hid (rule_pass R.data.toList)
       have HC1 := Lib.hid (rule_cs 5 R false false 0)
       have HO1 := Lib.hid (rule_one 5 R false false 0)
       replace i0 : ∀ W,(Instr.index 9 (.string s) (.int .i64 0)).run Tryz.prog W = .ok (.int .u8 62) W := i0
       clear ha hl
       go_enter Tryz.func61,Tryz.ntmps61
       go_wp2_with fail
       refine (CW.out _).mono ?_
       rintro e w1 ⟨bm,rfl,hM,hb1⟩
       have hlk := HLk.out _ _ hM
       have HP3 := Lib.hid (Rm3.new (c := #[.int .u8 0,.string ⟨#[]⟩,.bool false,.bool false,.int .u64 0]) (HP.out.keep hb1))
       clear hM hb1 CW HP
       go_upto_region 2 with fail
       generalize w1.heap.size = gr at HP3 ⊢
       generalize w1.alloc _ = w3 at HP3 ⊢
       clear hlk HLk
       go_upto_region 7 with fail
       rw [HEx.out]
       clear HEx
       go_wp2_with (with_reducible refine wpList_store_row rfl 29 (.tmp 2) (.tmp 25) rfl w.heap.size #[.int .u8 5,.string R,.bool false,.bool false,.int .u64 0] rfl rfl 29 _ HP3.out.r.h HC1.out rfl HO1.out ?_)
       exact bodyPost_ret (results_cell_slot rfl _ _ w.heap.size 29 #[.int .u8 5,.string R,.bool false,.bool false,.int .u64 0] (0,0) _ (.bool true) rfl (setRow_heap _ w.heap.size _ _ _ _ HP3.out.r.h) Tryz.underlying29 rfl HC1.out rfl) rfl ⟨ans_of HN.out rfl (str_of rfl) rfl rfl rfl,below_setRow HP3.out.r.b (Nat.le_refl _) _⟩
     by_cases h35 : c = 35
     · subst h35
       have CR := Lib.hid (fun W hW => record_any 6 R W (hRw (Or.inl rfl)) hW)
       rw [← (show ruleD (35 :: R.data.toList) = _ from rule_hash _)] at CR
       generalize ruleD (35 :: R.data.toList) = o at CR ⊢
       obtain ⟨vk,vs,va,vb,vm,ok,hI⟩ := ans_told o
       have HI := Lib.hid hI
       have HC1 := Lib.hid (rule_cs vk vs va vb vm)
       have HO1 := Lib.hid (rule_one vk vs va vb vm)
       replace i0 : ∀ W,(Instr.index 9 (.string s) (.int .i64 0)).run Tryz.prog W = .ok (.int .u8 35) W := i0
       clear ha hl hI
       go_enter Tryz.func61,Tryz.ntmps61
       go_wp2_with fail
       refine (CW.out _).mono ?_
       rintro e w1 ⟨bm,rfl,hM,hb1⟩
       have hlk := HLk.out _ _ hM
       have HP3 := Lib.hid (Rm3.new (c := #[.int .u8 0,.string ⟨#[]⟩,.bool false,.bool false,.int .u64 0]) (HP.out.keep hb1))
       clear hM hb1 CW HP
       go_upto_region 2 with fail
       generalize w1.heap.size = gr at HP3 ⊢
       generalize w1.alloc _ = w3 at HP3 ⊢
       clear hlk HLk
       go_upto_region 7 with fail
       rw [HEx.out]
       clear HEx
       go_wp2_with fail
       refine (CR.out _ (HG.out.keep HP3.out.r.b)).mono ?_
       rintro e w4 ⟨he4,hb4⟩
       obtain rfl := (HI.out _).1 he4
       have HP4 := Lib.hid (HP3.out.r.keep hb4)
       clear he4 hb4
       go_wp2_with (with_reducible refine wpList_store_row rfl 29 (.tmp 2) (.tmp 30) rfl w.heap.size #[.int .u8 vk,.string vs,.bool va,.bool vb,.int .u64 vm] rfl rfl 29 _ HP4.out.h HC1.out rfl HO1.out ?_)
       exact bodyPost_ret (results_cell_slot rfl _ _ w.heap.size 29 #[.int .u8 vk,.string vs,.bool va,.bool vb,.int .u64 vm] (0,0) _ (.bool ok) rfl (setRow_heap _ w.heap.size _ _ _ _ HP4.out.h) Tryz.underlying29 rfl HC1.out rfl) rfl ⟨(HI.out _).2 rfl,below_setRow HP4.out.b (Nat.le_refl _) _⟩
     by_cases h33 : c = 33
     · subst h33
       have CR := Lib.hid (fun W hW => record_any 7 R W (hRw (Or.inr rfl)) hW)
       rw [← (show ruleD (33 :: R.data.toList) = _ from rule_unhash _)] at CR
       generalize ruleD (33 :: R.data.toList) = o at CR ⊢
       obtain ⟨vk,vs,va,vb,vm,ok,hI⟩ := ans_told o
       have HI := Lib.hid hI
       have HC1 := Lib.hid (rule_cs vk vs va vb vm)
       have HO1 := Lib.hid (rule_one vk vs va vb vm)
       replace i0 : ∀ W,(Instr.index 9 (.string s) (.int .i64 0)).run Tryz.prog W = .ok (.int .u8 33) W := i0
       clear ha hl hI
       go_enter Tryz.func61,Tryz.ntmps61
       go_wp2_with fail
       refine (CW.out _).mono ?_
       rintro e w1 ⟨bm,rfl,hM,hb1⟩
       have hlk := HLk.out _ _ hM
       have HP3 := Lib.hid (Rm3.new (c := #[.int .u8 0,.string ⟨#[]⟩,.bool false,.bool false,.int .u64 0]) (HP.out.keep hb1))
       clear hM hb1 CW HP
       go_upto_region 2 with fail
       generalize w1.heap.size = gr at HP3 ⊢
       generalize w1.alloc _ = w3 at HP3 ⊢
       clear hlk HLk
       go_upto_region 7 with fail
       rw [HEx.out]
       clear HEx
       go_wp2_with fail
       refine (CR.out _ (HG.out.keep HP3.out.r.b)).mono ?_
       rintro e w4 ⟨he4,hb4⟩
       obtain rfl := (HI.out _).1 he4
       have HP4 := Lib.hid (HP3.out.r.keep hb4)
       clear he4 hb4
       go_wp2_with (with_reducible refine wpList_store_row rfl 29 (.tmp 2) (.tmp 36) rfl w.heap.size #[.int .u8 vk,.string vs,.bool va,.bool vb,.int .u64 vm] rfl rfl 29 _ HP4.out.h HC1.out rfl HO1.out ?_)
       exact bodyPost_ret (results_cell_slot rfl _ _ w.heap.size 29 #[.int .u8 vk,.string vs,.bool va,.bool vb,.int .u64 vm] (0,0) _ (.bool ok) rfl (setRow_heap _ w.heap.size _ _ _ _ HP4.out.h) Tryz.underlying29 rfl HC1.out rfl) rfl ⟨(HI.out _).2 rfl,below_setRow HP4.out.b (Nat.le_refl _) _⟩
     by_cases h43 : c = 43
     · subst h43
       have CR := Lib.hid (fun W (hW : Gw W) => commands_any 8 R W hRz)
       rw [← (show ruleD (43 :: R.data.toList) = _ from rule_add _)] at CR
       generalize ruleD (43 :: R.data.toList) = o at CR ⊢
       obtain ⟨vk,vs,va,vb,vm,ok,hI⟩ := ans_told o
       have HI := Lib.hid hI
       have HC1 := Lib.hid (rule_cs vk vs va vb vm)
       have HO1 := Lib.hid (rule_one vk vs va vb vm)
       replace i0 : ∀ W,(Instr.index 9 (.string s) (.int .i64 0)).run Tryz.prog W = .ok (.int .u8 43) W := i0
       clear ha hl hI
       go_enter Tryz.func61,Tryz.ntmps61
       go_wp2_with fail
       refine (CW.out _).mono ?_
       rintro e w1 ⟨bm,rfl,hM,hb1⟩
       have hlk := HLk.out _ _ hM
       have HP3 := Lib.hid (Rm3.new (c := #[.int .u8 0,.string ⟨#[]⟩,.bool false,.bool false,.int .u64 0]) (HP.out.keep hb1))
       clear hM hb1 CW HP
       go_upto_region 2 with fail
       generalize w1.heap.size = gr at HP3 ⊢
       generalize w1.alloc _ = w3 at HP3 ⊢
       clear hlk HLk
       go_upto_region 7 with fail
       rw [HEx.out]
       clear HEx
       go_wp2_with fail
       refine (CR.out _ (HG.out.keep HP3.out.r.b)).mono ?_
       rintro e w4 ⟨he4,hb4⟩
       obtain rfl := (HI.out _).1 he4
       have HP4 := Lib.hid (HP3.out.r.keep hb4)
       clear he4 hb4
       go_wp2_with (with_reducible refine wpList_store_row rfl 29 (.tmp 2) (.tmp 42) rfl w.heap.size #[.int .u8 vk,.string vs,.bool va,.bool vb,.int .u64 vm] rfl rfl 29 _ HP4.out.h HC1.out rfl HO1.out ?_)
       exact bodyPost_ret (results_cell_slot rfl _ _ w.heap.size 29 #[.int .u8 vk,.string vs,.bool va,.bool vb,.int .u64 vm] (0,0) _ (.bool ok) rfl (setRow_heap _ w.heap.size _ _ _ _ HP4.out.h) Tryz.underlying29 rfl HC1.out rfl) rfl ⟨(HI.out _).2 rfl,below_setRow HP4.out.b (Nat.le_refl _) _⟩
     by_cases h45 : c = 45
     · subst h45
       have CR := Lib.hid (fun W (hW : Gw W) => commands_any 9 R W hRz)
       rw [← (show ruleD (45 :: R.data.toList) = _ from rule_sub _)] at CR
       generalize ruleD (45 :: R.data.toList) = o at CR ⊢
       obtain ⟨vk,vs,va,vb,vm,ok,hI⟩ := ans_told o
       have HI := Lib.hid hI
       have HC1 := Lib.hid (rule_cs vk vs va vb vm)
       have HO1 := Lib.hid (rule_one vk vs va vb vm)
       replace i0 : ∀ W,(Instr.index 9 (.string s) (.int .i64 0)).run Tryz.prog W = .ok (.int .u8 45) W := i0
       clear ha hl hI
       go_enter Tryz.func61,Tryz.ntmps61
       go_wp2_with fail
       refine (CW.out _).mono ?_
       rintro e w1 ⟨bm,rfl,hM,hb1⟩
       have hlk := HLk.out _ _ hM
       have HP3 := Lib.hid (Rm3.new (c := #[.int .u8 0,.string ⟨#[]⟩,.bool false,.bool false,.int .u64 0]) (HP.out.keep hb1))
       clear hM hb1 CW HP
       go_upto_region 2 with fail
       generalize w1.heap.size = gr at HP3 ⊢
       generalize w1.alloc _ = w3 at HP3 ⊢
       clear hlk HLk
       go_upto_region 7 with fail
       rw [HEx.out]
       clear HEx
       go_wp2_with fail
       refine (CR.out _ (HG.out.keep HP3.out.r.b)).mono ?_
       rintro e w4 ⟨he4,hb4⟩
       obtain rfl := (HI.out _).1 he4
       have HP4 := Lib.hid (HP3.out.r.keep hb4)
       clear he4 hb4
       go_wp2_with (with_reducible refine wpList_store_row rfl 29 (.tmp 2) (.tmp 48) rfl w.heap.size #[.int .u8 vk,.string vs,.bool va,.bool vb,.int .u64 vm] rfl rfl 29 _ HP4.out.h HC1.out rfl HO1.out ?_)
       exact bodyPost_ret (results_cell_slot rfl _ _ w.heap.size 29 #[.int .u8 vk,.string vs,.bool va,.bool vb,.int .u64 vm] (0,0) _ (.bool ok) rfl (setRow_heap _ w.heap.size _ _ _ _ HP4.out.h) Tryz.underlying29 rfl HC1.out rfl) rfl ⟨(HI.out _).2 rfl,below_setRow HP4.out.b (Nat.le_refl _) _⟩
     by_cases h126 : c = 126
     · subst h126
       have CR := Lib.hid (fun W hW => keys_any s W hz2 hW)
       rw [← (show ruleD (126 :: R.data.toList) = _ from (rule_keys (Or.inl rfl)).trans (congrArg keysD hl.symm))] at CR
       generalize ruleD (126 :: R.data.toList) = o at CR ⊢
       obtain ⟨vk,vs,va,vb,vm,ok,hI⟩ := ans_told o
       have HI := Lib.hid hI
       have HC1 := Lib.hid (rule_cs vk vs va vb vm)
       have HO1 := Lib.hid (rule_one vk vs va vb vm)
       replace i0 : ∀ W,(Instr.index 9 (.string s) (.int .i64 0)).run Tryz.prog W = .ok (.int .u8 126) W := i0
       clear ha hl hI
       go_enter Tryz.func61,Tryz.ntmps61
       go_wp2_with fail
       refine (CW.out _).mono ?_
       rintro e w1 ⟨bm,rfl,hM,hb1⟩
       have hlk := HLk.out _ _ hM
       have HP3 := Lib.hid (Rm3.new (c := #[.int .u8 0,.string ⟨#[]⟩,.bool false,.bool false,.int .u64 0]) (HP.out.keep hb1))
       clear hM hb1 CW HP
       go_upto_region 2 with fail
       generalize w1.heap.size = gr at HP3 ⊢
       generalize w1.alloc _ = w3 at HP3 ⊢
       clear hlk HLk
       go_upto_region 7 with fail
       rw [HEx.out]
       clear HEx
       go_wp2_with fail
       refine (CR.out _ (HG.out.keep HP3.out.r.b)).mono ?_
       rintro e w4 ⟨he4,hb4⟩
       obtain rfl := (HI.out _).1 he4
       have HP4 := Lib.hid (HP3.out.r.keep hb4)
       clear he4 hb4
       go_wp2_with (with_reducible refine wpList_store_row rfl 29 (.tmp 2) (.tmp 55) rfl w.heap.size #[.int .u8 vk,.string vs,.bool va,.bool vb,.int .u64 vm] rfl rfl 29 _ HP4.out.h HC1.out rfl HO1.out ?_)
       exact bodyPost_ret (results_cell_slot rfl _ _ w.heap.size 29 #[.int .u8 vk,.string vs,.bool va,.bool vb,.int .u64 vm] (0,0) _ (.bool ok) rfl (setRow_heap _ w.heap.size _ _ _ _ HP4.out.h) Tryz.underlying29 rfl HC1.out rfl) rfl ⟨(HI.out _).2 rfl,below_setRow HP4.out.b (Nat.le_refl _) _⟩
     by_cases h37 : c = 37
     · subst h37
       have CR := Lib.hid (fun W hW => keys_any s W hz2 hW)
       rw [← (show ruleD (37 :: R.data.toList) = _ from (rule_keys (Or.inr rfl)).trans (congrArg keysD hl.symm))] at CR
       generalize ruleD (37 :: R.data.toList) = o at CR ⊢
       obtain ⟨vk,vs,va,vb,vm,ok,hI⟩ := ans_told o
       have HI := Lib.hid hI
       have HC1 := Lib.hid (rule_cs vk vs va vb vm)
       have HO1 := Lib.hid (rule_one vk vs va vb vm)
       replace i0 : ∀ W,(Instr.index 9 (.string s) (.int .i64 0)).run Tryz.prog W = .ok (.int .u8 37) W := i0
       clear ha hl hI
       go_enter Tryz.func61,Tryz.ntmps61
       go_wp2_with fail
       refine (CW.out _).mono ?_
       rintro e w1 ⟨bm,rfl,hM,hb1⟩
       have hlk := HLk.out _ _ hM
       have HP3 := Lib.hid (Rm3.new (c := #[.int .u8 0,.string ⟨#[]⟩,.bool false,.bool false,.int .u64 0]) (HP.out.keep hb1))
       clear hM hb1 CW HP
       go_upto_region 2 with fail
       generalize w1.heap.size = gr at HP3 ⊢
       generalize w1.alloc _ = w3 at HP3 ⊢
       clear hlk HLk
       go_upto_region 7 with fail
       rw [HEx.out]
       clear HEx
       go_wp2_with fail
       refine (CR.out _ (HG.out.keep HP3.out.r.b)).mono ?_
       rintro e w4 ⟨he4,hb4⟩
       obtain rfl := (HI.out _).1 he4
       have HP4 := Lib.hid (HP3.out.r.keep hb4)
       clear he4 hb4
       go_wp2_with (with_reducible refine wpList_store_row rfl 29 (.tmp 2) (.tmp 55) rfl w.heap.size #[.int .u8 vk,.string vs,.bool va,.bool vb,.int .u64 vm] rfl rfl 29 _ HP4.out.h HC1.out rfl HO1.out ?_)
       exact bodyPost_ret (results_cell_slot rfl _ _ w.heap.size 29 #[.int .u8 vk,.string vs,.bool va,.bool vb,.int .u64 vm] (0,0) _ (.bool ok) rfl (setRow_heap _ w.heap.size _ _ _ _ HP4.out.h) Tryz.underlying29 rfl HC1.out rfl) rfl ⟨(HI.out _).2 rfl,below_setRow HP4.out.b (Nat.le_refl _) _⟩
     by_cases h38 : c = 38
     · subst h38
       have CR := Lib.hid (fun W (hW : Gw W) => pattern_code 12 R false false W hRz)
       rw [← (show ruleD (38 :: R.data.toList) = _ from rule_chan _)] at CR
       generalize ruleD (38 :: R.data.toList) = o at CR ⊢
       obtain ⟨vk,vs,va,vb,vm,ok,hI⟩ := ans_told o
       have HI := Lib.hid hI
       have HC1 := Lib.hid (rule_cs vk vs va vb vm)
       have HO1 := Lib.hid (rule_one vk vs va vb vm)
       replace i0 : ∀ W,(Instr.index 9 (.string s) (.int .i64 0)).run Tryz.prog W = .ok (.int .u8 38) W := i0
       clear ha hl hI
       go_enter Tryz.func61,Tryz.ntmps61
       go_wp2_with fail
       refine (CW.out _).mono ?_
       rintro e w1 ⟨bm,rfl,hM,hb1⟩
       have hlk := HLk.out _ _ hM
       have HP3 := Lib.hid (Rm3.new (c := #[.int .u8 0,.string ⟨#[]⟩,.bool false,.bool false,.int .u64 0]) (HP.out.keep hb1))
       clear hM hb1 CW HP
       go_upto_region 2 with fail
       generalize w1.heap.size = gr at HP3 ⊢
       generalize w1.alloc _ = w3 at HP3 ⊢
       clear hlk HLk
       go_upto_region 7 with fail
       rw [HEx.out]
       clear HEx
       go_wp2_with fail
       refine (CR.out _ (HG.out.keep HP3.out.r.b)).mono ?_
       rintro e w4 ⟨he4,hb4⟩
       obtain rfl := (HI.out _).1 he4
       have HP4 := Lib.hid (HP3.out.r.keep hb4)
       clear he4 hb4
       go_wp2_with (with_reducible refine wpList_store_row rfl 29 (.tmp 2) (.tmp 62) rfl w.heap.size #[.int .u8 vk,.string vs,.bool va,.bool vb,.int .u64 vm] rfl rfl 29 _ HP4.out.h HC1.out rfl HO1.out ?_)
       exact bodyPost_ret (results_cell_slot rfl _ _ w.heap.size 29 #[.int .u8 vk,.string vs,.bool va,.bool vb,.int .u64 vm] (0,0) _ (.bool ok) rfl (setRow_heap _ w.heap.size _ _ _ _ HP4.out.h) Tryz.underlying29 rfl HC1.out rfl) rfl ⟨(HI.out _).2 rfl,below_setRow HP4.out.b (Nat.le_refl _) _⟩
     have HN := Lib.hid (none_first ha h62 h35 h33 h43 h45 h126 h37 h38)
     have q62 := ne_int 62 (by decide) h62
     have q35 := ne_int 35 (by decide) h35
     have q33 := ne_int 33 (by decide) h33
     have q43 := ne_int 43 (by decide) h43
     have q45 := ne_int 45 (by decide) h45
     have q126 := ne_int 126 (by decide) h126
     have q37 := ne_int 37 (by decide) h37
     have q38 := ne_int 38 (by decide) h38
     generalize hcn : (c.toNat : Int) = cn at i0 q62 q35 q33 q43 q45 q126 q37 q38
     clear ha hl hcn h62 h35 h33 h43 h45 h126 h37 h38
     go_enter Tryz.func61,Tryz.ntmps61
     go_wp2_with fail
     refine (CW.out _).mono ?_
     rintro e w1 ⟨bm,rfl,hM,hb1⟩
     have hlk := HLk.out _ _ hM
     have HP3 := Lib.hid (Rm3.new (c := #[.int .u8 0,.string ⟨#[]⟩,.bool false,.bool false,.int .u64 0]) (HP.out.keep hb1))
     clear hM hb1 CW HP
     go_upto_region 2 with fail
     generalize w1.heap.size = gr at HP3 ⊢
     generalize w1.alloc _ = w3 at HP3 ⊢
     clear hlk HLk
     go_upto_region 7 with fail
     rw [HEx.out]
     clear HEx
     go_wp2_with (with_reducible refine wpList_store_row rfl 29 (.tmp 2) (.tmp 64) rfl w.heap.size #[.int .u8 0,.string ⟨#[]⟩,.bool false,.bool false,.int .u64 0] rfl rfl 29 _ HP3.out.r.h HC0.out rfl HO0.out ?_)
     exact bodyPost_ret (results_cell_slot rfl _ _ w.heap.size 29 #[.int .u8 0,.string ⟨#[]⟩,.bool false,.bool false,.int .u64 0] (0,0) _ (.bool false) rfl (setRow_heap _ w.heap.size _ _ _ _ HP3.out.r.h) Tryz.underlying29 rfl HC0.out rfl) rfl ⟨ans_no HN.out,below_setRow HP3.out.r.b (Nat.le_refl _) _⟩
theorem rule_any (s : ByteArray) (w : World) (hz : s.size ≤ 1048000) (hg : Gw w) : Calls Tryz.prog 61 #[.string s] w fun e w' => ansR (ruleD s.data.toList) e ∧ Below w.heap.size w w' :=
 rule_wide s w (by omega) (fun c r h _ => by
  have h1 : s.data.toList.length = s.size := size_l
  rw [h,List.length_cons] at h1
  omega) hg
end Go.Proofs.YtpoinibckmbfcaaGreatDoor.RuleM
