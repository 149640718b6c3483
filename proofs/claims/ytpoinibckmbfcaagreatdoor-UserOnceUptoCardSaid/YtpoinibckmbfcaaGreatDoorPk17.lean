/-
  Packed by program.
-/
import Derived.Test.YtpoinibckmbfcaaGreatDoorPk16
namespace Go.Proofs.YtpoinibckmbfcaaGreatDoor.RefUser
open Go.RowKit Kit StrT RowG RuleT UserT UserR TableMath Low ValT
open Go.Sort (grow)
set_option linter.unusedVariables false
set_option maxRecDepth 100000
set_option maxHeartbeats 4000000 in
theorem right_10 (k m : Nat) (T : ByteArray) (a b : Bool) (w : World) (hk : k = 10) (hz : T.size ≤ 1048576) (hm : m < 18446744073709551616) (hk2 : k ≤ 255) : RightC k m T a b w := by
 have CT := Lib.hid (fun S W => RefTab.cat_any S W)
 have CW := Lib.hid (fun W => Ref01.word_ref T W (by unfold maxLen; omega))
 obtain ⟨B,hB⟩ : ∃ B,B = NumW.wordB T.data.toList := ⟨_,rfl⟩
 rw [← hB] at CW
 have HBq := Lib.hid hB
 clear hB
 have bn := RefRule.build_no
 have bk := build_kk
 have bks := RefRule.build_ks
 have bkm := RefRule.build_km
 have bkr := RefRule.build_ksrw
 have HK := Lib.hid hk
 clear hk
 unfold RightC
 obtain ⟨W0,hW0⟩ : ∃ W0,W0 = w.alloc (.cells #[.int .u8 (k : Int),.string T,.bool a,.bool b,.int .u64 (m : Int)] 29) := ⟨_,rfl⟩
 have HBx := Lib.hid (show W0.heap[w.heap.size]? = some (.cells #[.int .u8 (k : Int),.string T,.bool a,.bool b,.int .u64 (m : Int)] 29 (0,0)) by rw [hW0]; exact heap_alloc_last w _)
 have HB0 := Lib.hid (show Below w.heap.size w W0 by rw [hW0]; exact Kit.below1 w _)
 go_enter Tryz.func25,Tryz.ntmps25
 go_upto_region 1 with fail
 rw [← hW0]
 clear hW0
 go_wp2_with fail
 refine (CT.out _ _).mono ?_
 rintro e w2 ⟨rfl,hb2⟩
 have HB := Lib.hid (HB0.out.trans (hb2.mono HB0.out.size))
 have hx : w2.heap[w.heap.size]? = some (.cells #[.int .u8 (k : Int),.string T,.bool a,.bool b,.int .u64 (m : Int)] 29 (0,0)) := by rw [hb2.block _ (Array.getElem?_eq_some_iff.1 HBx.out).1]; exact HBx.out
 obtain ⟨c0,c1,c2,c3,c4⟩ := box_cells hx
 rw [show (⟨#[97,108,108]⟩ : ByteArray).data.toList = [97,108,108] from rfl,all_name.1,all_name.2]
 have hk := HK.out
 clear hx hb2 CT HBx HB0 HK
 subst hk
 rcases a with _ | _
 · rcases b with _ | _
   · by_cases hm0 : m = 0
     · subst hm0
       rcases B with _ | _
       · have HF := Lib.hid (show rightR ⟨10,T.data.toList,false,false,0⟩ = false by simp [rightR,← HBq.out])
         go_wp2_with fail
         refine (CW.out _).mono ?_
         rintro e w3 ⟨rfl,rfl⟩
         go_wp2_with fail
         go_ret
         exact ⟨ret_bool HF.out.symm,HB.out⟩
       · have HF := Lib.hid (show rightR ⟨10,T.data.toList,false,false,0⟩ = false by simp [rightR,← HBq.out])
         go_wp2_with fail
         refine (CW.out _).mono ?_
         rintro e w3 ⟨rfl,rfl⟩
         go_wp2_with fail
         go_ret
         exact ⟨ret_bool HF.out.symm,HB.out⟩
     · have hm1 : ((m : Int) == 0) = false := beq_eq_false_iff_ne.2 (by omega)
       have HF := Lib.hid (show rightR ⟨10,T.data.toList,false,false,m⟩ = false by simp [rightR,hm0])
       go_wp2_with fail
       go_ret
       exact ⟨ret_bool HF.out.symm,HB.out⟩
   · by_cases hm0 : m = 0
     · subst hm0
       rcases B with _ | _
       · have HF := Lib.hid (show rightR ⟨10,T.data.toList,false,true,0⟩ = false by simp [rightR,← HBq.out])
         go_wp2_with fail
         refine (CW.out _).mono ?_
         rintro e w3 ⟨rfl,rfl⟩
         go_wp2_with fail
         go_ret
         exact ⟨ret_bool HF.out.symm,HB.out⟩
       · have HF := Lib.hid (show rightR ⟨10,T.data.toList,false,true,0⟩ = true by simp [rightR,← HBq.out])
         go_wp2_with fail
         refine (CW.out _).mono ?_
         rintro e w3 ⟨rfl,rfl⟩
         go_wp2_with fail
         go_ret
         exact ⟨ret_bool HF.out.symm,HB.out⟩
     · have hm1 : ((m : Int) == 0) = false := beq_eq_false_iff_ne.2 (by omega)
       have HF := Lib.hid (show rightR ⟨10,T.data.toList,false,true,m⟩ = false by simp [rightR,hm0])
       go_wp2_with fail
       go_ret
       exact ⟨ret_bool HF.out.symm,HB.out⟩
 · rcases b with _ | _
   · by_cases hm0 : m = 0
     · subst hm0
       rcases B with _ | _
       · have HF := Lib.hid (show rightR ⟨10,T.data.toList,true,false,0⟩ = false by simp [rightR,← HBq.out])
         go_wp2_with fail
         refine (CW.out _).mono ?_
         rintro e w3 ⟨rfl,rfl⟩
         go_wp2_with fail
         go_ret
         exact ⟨ret_bool HF.out.symm,HB.out⟩
       · have HF := Lib.hid (show rightR ⟨10,T.data.toList,true,false,0⟩ = true by simp [rightR,← HBq.out])
         go_wp2_with fail
         refine (CW.out _).mono ?_
         rintro e w3 ⟨rfl,rfl⟩
         go_wp2_with fail
         go_ret
         exact ⟨ret_bool HF.out.symm,HB.out⟩
     · have hm1 : ((m : Int) == 0) = false := beq_eq_false_iff_ne.2 (by omega)
       have HF := Lib.hid (show rightR ⟨10,T.data.toList,true,false,m⟩ = false by simp [rightR,hm0])
       go_wp2_with fail
       go_ret
       exact ⟨ret_bool HF.out.symm,HB.out⟩
   · by_cases hm0 : m = 0
     · subst hm0
       rcases B with _ | _
       · have HF := Lib.hid (show rightR ⟨10,T.data.toList,true,true,0⟩ = false by simp [rightR,← HBq.out])
         go_wp2_with fail
         refine (CW.out _).mono ?_
         rintro e w3 ⟨rfl,rfl⟩
         go_wp2_with fail
         go_ret
         exact ⟨ret_bool HF.out.symm,HB.out⟩
       · have HF := Lib.hid (show rightR ⟨10,T.data.toList,true,true,0⟩ = true by simp [rightR,← HBq.out])
         go_wp2_with fail
         refine (CW.out _).mono ?_
         rintro e w3 ⟨rfl,rfl⟩
         go_wp2_with fail
         go_ret
         exact ⟨ret_bool HF.out.symm,HB.out⟩
     · have hm1 : ((m : Int) == 0) = false := beq_eq_false_iff_ne.2 (by omega)
       have HF := Lib.hid (show rightR ⟨10,T.data.toList,true,true,m⟩ = false by simp [rightR,hm0])
       go_wp2_with fail
       go_ret
       exact ⟨ret_bool HF.out.symm,HB.out⟩
set_option maxHeartbeats 4000000 in
theorem right_12 (k m : Nat) (T : ByteArray) (a b : Bool) (w : World) (hk : k = 12) (hz : T.size ≤ 1048576) (hm : m < 18446744073709551616) (hk2 : k ≤ 255) : RightC k m T a b w := by
 have CT := Lib.hid (fun S W => RefTab.cat_any S W)
 have CW := Lib.hid (fun W => Ref01.word_ref T W (by unfold maxLen; omega))
 obtain ⟨B,hB⟩ : ∃ B,B = NumW.wordB T.data.toList := ⟨_,rfl⟩
 rw [← hB] at CW
 have HBq := Lib.hid hB
 clear hB
 have bn := RefRule.build_no
 have bk := build_kk
 have bks := RefRule.build_ks
 have bkm := RefRule.build_km
 have bkr := RefRule.build_ksrw
 have HK := Lib.hid hk
 clear hk
 unfold RightC
 obtain ⟨W0,hW0⟩ : ∃ W0,W0 = w.alloc (.cells #[.int .u8 (k : Int),.string T,.bool a,.bool b,.int .u64 (m : Int)] 29) := ⟨_,rfl⟩
 have HBx := Lib.hid (show W0.heap[w.heap.size]? = some (.cells #[.int .u8 (k : Int),.string T,.bool a,.bool b,.int .u64 (m : Int)] 29 (0,0)) by rw [hW0]; exact heap_alloc_last w _)
 have HB0 := Lib.hid (show Below w.heap.size w W0 by rw [hW0]; exact Kit.below1 w _)
 go_enter Tryz.func25,Tryz.ntmps25
 go_upto_region 1 with fail
 rw [← hW0]
 clear hW0
 go_wp2_with fail
 refine (CT.out _ _).mono ?_
 rintro e w2 ⟨rfl,hb2⟩
 have HB := Lib.hid (HB0.out.trans (hb2.mono HB0.out.size))
 have hx : w2.heap[w.heap.size]? = some (.cells #[.int .u8 (k : Int),.string T,.bool a,.bool b,.int .u64 (m : Int)] 29 (0,0)) := by rw [hb2.block _ (Array.getElem?_eq_some_iff.1 HBx.out).1]; exact HBx.out
 obtain ⟨c0,c1,c2,c3,c4⟩ := box_cells hx
 rw [show (⟨#[97,108,108]⟩ : ByteArray).data.toList = [97,108,108] from rfl,all_name.1,all_name.2]
 have hk := HK.out
 clear hx hb2 CT HBx HB0 HK
 subst hk
 rcases a with _ | _
 · rcases b with _ | _
   · by_cases hm0 : m = 0
     · subst hm0
       rcases B with _ | _
       · have HF := Lib.hid (show rightR ⟨12,T.data.toList,false,false,0⟩ = false by simp [rightR,← HBq.out])
         go_wp2_with fail
         refine (CW.out _).mono ?_
         rintro e w3 ⟨rfl,rfl⟩
         go_wp2_with fail
         go_ret
         exact ⟨ret_bool HF.out.symm,HB.out⟩
       · have HF := Lib.hid (show rightR ⟨12,T.data.toList,false,false,0⟩ = true by simp [rightR,← HBq.out])
         go_wp2_with fail
         refine (CW.out _).mono ?_
         rintro e w3 ⟨rfl,rfl⟩
         go_wp2_with fail
         go_ret
         exact ⟨ret_bool HF.out.symm,HB.out⟩
     · have hm1 : ((m : Int) == 0) = false := beq_eq_false_iff_ne.2 (by omega)
       have HF := Lib.hid (show rightR ⟨12,T.data.toList,false,false,m⟩ = false by simp [rightR,hm0])
       go_wp2_with fail
       go_ret
       exact ⟨ret_bool HF.out.symm,HB.out⟩
   · by_cases hm0 : m = 0
     · subst hm0
       have HF := Lib.hid (show rightR ⟨12,T.data.toList,false,true,0⟩ = false by simp [rightR])
       go_wp2_with fail
       go_ret
       exact ⟨ret_bool HF.out.symm,HB.out⟩
     · have hm1 : ((m : Int) == 0) = false := beq_eq_false_iff_ne.2 (by omega)
       have HF := Lib.hid (show rightR ⟨12,T.data.toList,false,true,m⟩ = false by simp [rightR,hm0])
       go_wp2_with fail
       go_ret
       exact ⟨ret_bool HF.out.symm,HB.out⟩
 · rcases b with _ | _
   · by_cases hm0 : m = 0
     · subst hm0
       have HF := Lib.hid (show rightR ⟨12,T.data.toList,true,false,0⟩ = false by simp [rightR])
       go_wp2_with fail
       go_ret
       exact ⟨ret_bool HF.out.symm,HB.out⟩
     · have hm1 : ((m : Int) == 0) = false := beq_eq_false_iff_ne.2 (by omega)
       have HF := Lib.hid (show rightR ⟨12,T.data.toList,true,false,m⟩ = false by simp [rightR,hm0])
       go_wp2_with fail
       go_ret
       exact ⟨ret_bool HF.out.symm,HB.out⟩
   · by_cases hm0 : m = 0
     · subst hm0
       have HF := Lib.hid (show rightR ⟨12,T.data.toList,true,true,0⟩ = false by simp [rightR])
       go_wp2_with fail
       go_ret
       exact ⟨ret_bool HF.out.symm,HB.out⟩
     · have hm1 : ((m : Int) == 0) = false := beq_eq_false_iff_ne.2 (by omega)
       have HF := Lib.hid (show rightR ⟨12,T.data.toList,true,true,m⟩ = false by simp [rightR,hm0])
       go_wp2_with fail
       go_ret
       exact ⟨ret_bool HF.out.symm,HB.out⟩
set_option maxHeartbeats 4000000 in
theorem right_x (k m : Nat) (T : ByteArray) (a b : Bool) (w : World) (hk : k ≠ 5 ∧ k ≠ 6 ∧ k ≠ 7 ∧ k ≠ 8 ∧ k ≠ 9 ∧ k ≠ 10 ∧ k ≠ 12) (hz : T.size ≤ 1048576) (hm : m < 18446744073709551616) (hk2 : k ≤ 255) : RightC k m T a b w := by
 have CT := Lib.hid (fun S W => RefTab.cat_any S W)
 have bn := RefRule.build_no
 have bk := build_kk
 have bks := RefRule.build_ks
 have bkm := RefRule.build_km
 have bkr := RefRule.build_ksrw
 have HK := Lib.hid hk
 clear hk
 unfold RightC
 obtain ⟨W0,hW0⟩ : ∃ W0,W0 = w.alloc (.cells #[.int .u8 (k : Int),.string T,.bool a,.bool b,.int .u64 (m : Int)] 29) := ⟨_,rfl⟩
 have HBx := Lib.hid (show W0.heap[w.heap.size]? = some (.cells #[.int .u8 (k : Int),.string T,.bool a,.bool b,.int .u64 (m : Int)] 29 (0,0)) by rw [hW0]; exact heap_alloc_last w _)
 have HB0 := Lib.hid (show Below w.heap.size w W0 by rw [hW0]; exact Kit.below1 w _)
 go_enter Tryz.func25,Tryz.ntmps25
 go_upto_region 1 with fail
 rw [← hW0]
 clear hW0
 go_wp2_with fail
 refine (CT.out _ _).mono ?_
 rintro e w2 ⟨rfl,hb2⟩
 have HB := Lib.hid (HB0.out.trans (hb2.mono HB0.out.size))
 have hx : w2.heap[w.heap.size]? = some (.cells #[.int .u8 (k : Int),.string T,.bool a,.bool b,.int .u64 (m : Int)] 29 (0,0)) := by rw [hb2.block _ (Array.getElem?_eq_some_iff.1 HBx.out).1]; exact HBx.out
 obtain ⟨c0,c1,c2,c3,c4⟩ := box_cells hx
 rw [show (⟨#[97,108,108]⟩ : ByteArray).data.toList = [97,108,108] from rfl,all_name.1,all_name.2]
 have hk := HK.out
 clear hx hb2 CT HBx HB0 HK
 obtain ⟨h5,h6,h7,h8,h9,h10,h12⟩ := hk
 have q5 : ((k : Int) == 5) = false := beq_eq_false_iff_ne.2 (by omega)
 have q6 : ((k : Int) == 6) = false := beq_eq_false_iff_ne.2 (by omega)
 have q7 : ((k : Int) == 7) = false := beq_eq_false_iff_ne.2 (by omega)
 have q8 : ((k : Int) == 8) = false := beq_eq_false_iff_ne.2 (by omega)
 have q9 : ((k : Int) == 9) = false := beq_eq_false_iff_ne.2 (by omega)
 have q10 : ((k : Int) == 10) = false := beq_eq_false_iff_ne.2 (by omega)
 have q12 : ((k : Int) == 12) = false := beq_eq_false_iff_ne.2 (by omega)
 have hR : ∀ s a b m,rightR ⟨k,s,a,b,m⟩ = (decide ((⟨k,s,a,b,m⟩ : RV) = ⟨k,[],false,false,0⟩) && decide (1 ≤ k ∧ k ≤ 14)) := fun s a b m => by
  unfold rightR
  simp only
  rw [if_neg h5,if_neg (by omega),if_neg (by omega),if_neg h10,if_neg h12]
 clear h5 h6 h7 h8 h9 h10 h12
 by_cases hT : T.data.toList = []
 · obtain rfl : T = ⟨#[]⟩ := RefRule.str_of hT
   rcases a with _ | _
   · rcases b with _ | _
     · by_cases hm0 : m = 0
       · subst hm0
         by_cases h1 : 1 ≤ k
         · have g1 : decide ((1 : Int) ≤ (k : Int)) = true := decide_eq_true (by omega)
           by_cases h2 : k ≤ 14
           · have g2 : decide ((k : Int) ≤ 14) = true := decide_eq_true (by omega)
             have HF := Lib.hid (show rightR ⟨k,[],false,false,0⟩ = true by rw [hR]; simp [h1,h2])
             clear hR
             go_wp2_with fail
             go_ret
             exact ⟨ret_bool HF.out.symm,HB.out⟩
           · have g2 : decide ((k : Int) ≤ 14) = false := decide_eq_false (by omega)
             have HF := Lib.hid (show rightR ⟨k,[],false,false,0⟩ = false by rw [hR]; simp [h2])
             clear hR
             go_wp2_with fail
             go_ret
             exact ⟨ret_bool HF.out.symm,HB.out⟩
         · have g1 : decide ((1 : Int) ≤ (k : Int)) = false := decide_eq_false (by omega)
           have HF := Lib.hid (show rightR ⟨k,[],false,false,0⟩ = false by rw [hR]; simp [h1])
           clear hR
           go_wp2_with fail
           go_ret
           exact ⟨ret_bool HF.out.symm,HB.out⟩
       · have hm1 : ((m : Int) == 0) = false := beq_eq_false_iff_ne.2 (by omega)
         have HF := Lib.hid (show rightR ⟨k,[],false,false,m⟩ = false by rw [hR]; simp [hm0])
         clear hR
         go_wp2_with fail
         go_ret
         exact ⟨ret_bool HF.out.symm,HB.out⟩
     · by_cases hm0 : m = 0
       · subst hm0
         have HF := Lib.hid (show rightR ⟨k,[],false,true,0⟩ = false by rw [hR]; simp)
         clear hR
         go_wp2_with fail
         go_ret
         exact ⟨ret_bool HF.out.symm,HB.out⟩
       · have hm1 : ((m : Int) == 0) = false := beq_eq_false_iff_ne.2 (by omega)
         have HF := Lib.hid (show rightR ⟨k,[],false,true,m⟩ = false by rw [hR]; simp [hm0])
         clear hR
         go_wp2_with fail
         go_ret
         exact ⟨ret_bool HF.out.symm,HB.out⟩
   · rcases b with _ | _
     · by_cases hm0 : m = 0
       · subst hm0
         have HF := Lib.hid (show rightR ⟨k,[],true,false,0⟩ = false by rw [hR]; simp)
         clear hR
         go_wp2_with fail
         go_ret
         exact ⟨ret_bool HF.out.symm,HB.out⟩
       · have hm1 : ((m : Int) == 0) = false := beq_eq_false_iff_ne.2 (by omega)
         have HF := Lib.hid (show rightR ⟨k,[],true,false,m⟩ = false by rw [hR]; simp [hm0])
         clear hR
         go_wp2_with fail
         go_ret
         exact ⟨ret_bool HF.out.symm,HB.out⟩
     · by_cases hm0 : m = 0
       · subst hm0
         have HF := Lib.hid (show rightR ⟨k,[],true,true,0⟩ = false by rw [hR]; simp)
         clear hR
         go_wp2_with fail
         go_ret
         exact ⟨ret_bool HF.out.symm,HB.out⟩
       · have hm1 : ((m : Int) == 0) = false := beq_eq_false_iff_ne.2 (by omega)
         have HF := Lib.hid (show rightR ⟨k,[],true,true,m⟩ = false by rw [hR]; simp [hm0])
         clear hR
         go_wp2_with fail
         go_ret
         exact ⟨ret_bool HF.out.symm,HB.out⟩
 · have he : T.toList.isEmpty = false := by rw [ByteArray.toList_eq]; simpa using hT
   have HF := Lib.hid (show rightR ⟨k,T.data.toList,a,b,m⟩ = false by rw [hR]; simp [hT])
   clear hT hR
   go_wp2_with fail
   go_ret
   exact ⟨ret_bool HF.out.symm,HB.out⟩
theorem right_any (k m : Nat) (T : ByteArray) (a b : Bool) (w : World) (hz : T.size ≤ 1048576) (hm : m < 18446744073709551616) (hk2 : k ≤ 255) : RightC k m T a b w := by
 by_cases h5 : k = 5
 · exact right_5 k m T a b w h5 hz hm hk2
 by_cases h6 : k = 6 ∨ k = 7
 · exact right_67 k m T a b w h6 hz hm hk2
 by_cases h8 : k = 8 ∨ k = 9
 · exact right_89 k m T a b w h8 hz hm hk2
 by_cases h10 : k = 10
 · exact right_10 k m T a b w h10 hz hm hk2
 by_cases h12 : k = 12
 · exact right_12 k m T a b w h12 hz hm hk2
 · exact right_x k m T a b w (by omega) hz hm hk2
end Go.Proofs.YtpoinibckmbfcaaGreatDoor.RefUser
