/-
  Packed by program.
-/
import Derived.Test.YtpoinibckmbfcaaGreatDoorPk15
namespace Go.Proofs.YtpoinibckmbfcaaGreatDoor.RefUser
open Go.RowKit Kit StrT RowG RuleT UserT UserR TableMath Low ValT
open Go.Sort (grow)
set_option linter.unusedVariables false
set_option maxRecDepth 100000
theorem shl_eq (m j : Nat) (hj : j < 56) : ((m : Int) == IntKind.u64.wrap (2 ^ j)) = decide (2 ^ j = m) := by
 rw [RefRule.shl_one j hj,Bool.eq_iff_iff,beq_iff_eq,decide_eq_true_eq]
 omega
theorem named_cat {m k : Nat} (hk : k < cats.length) (h : catV cats[k] = m) : namedB m = true := by
 unfold namedB
 rw [Bool.or_eq_true,Bool.or_eq_true]
 exact Or.inr (Or.inl (List.any_eq_true.2 ⟨_,List.getElem_mem hk,decide_eq_true h⟩))
theorem named_pow {m j : Nat} (hj : j < 56) (h : 2 ^ j = m) : namedB m = true := by
 unfold namedB
 rw [Bool.or_eq_true,Bool.or_eq_true]
 exact Or.inr (Or.inr (List.any_eq_true.2 ⟨j,List.mem_range.2 hj,decide_eq_true h⟩))
theorem named_last {m : Nat} (h1 : ∀ c ∈ cats,catV c ≠ m) (h2 : ∀ j,j < 56 → 2 ^ j ≠ m) : namedB m = ((m : Int) == 72057594037927935) := by
 unfold namedB
 have e1 : cats.any (fun c => decide (catV c = m)) = false := by
  rw [List.any_eq_false]
  intro c hc
  simpa using h1 c hc
 have e2 : (List.range 56).any (fun i => decide (2 ^ i = m)) = false := by
  rw [List.any_eq_false]
  intro i hi
  simpa using h2 i (List.mem_range.1 hi)
 rw [e1,e2,Bool.or_false,Bool.or_false,Bool.eq_iff_iff,beq_iff_eq,decide_eq_true_eq]
 unfold allM
 omega
theorem cat_next {L : List (List UInt8)} {k m : Nat} (hk : k < L.length) (h : ∀ c ∈ L.take k,catV c ≠ m) (h2 : catV L[k] ≠ m) : ∀ c ∈ L.take (k + 1),catV c ≠ m := by
 intro c hc
 rw [List.take_succ_eq_append_getElem hk] at hc
 rcases List.mem_append.1 hc with hc | hc
 · exact h c hc
 · rw [List.mem_singleton.1 hc]
   exact h2
set_option maxHeartbeats 2000000 in
theorem named_any (m : Nat) (w : World) (hm : m < 18446744073709551616) :
  Calls Tryz.prog 70 #[.int .u64 (m : Int),.int .u64 72057594037927935] w fun e w' => e = .returned (.bool (namedB m)) ∧ Below w.heap.size w w' := by
 have CC := Lib.hid (fun W => RefTab.cats_any W)
 have CT := Lib.hid (fun S W => RefTab.cat_any S W)
 go_enter Tryz.func70,Tryz.ntmps70
 go_wp2_with fail
 refine (CC.out _).mono ?_
 rintro e w1 ⟨bq,rfl,hS,hbq,hb1⟩
 have HS := Lib.hid hS
 have HB1 := Lib.hid hb1
 clear hS hbq hb1 CC
 go_wp2_with fail
 go_loopw [6] (fun i wr => ∃ k : Nat,k ≤ 12 ∧ i = .int .i64 k ∧ Hid (∀ c ∈ cats.take k,catV c ≠ m) ∧ Hid (Below w1.heap.size w1 wr)) (fun i _ => 12 - (intOf i).toNat)
 case atStart => exact ⟨0,Nat.zero_le _,rfl,Lib.hid (fun c hc => by simp at hc),Lib.hid (Below.refl _ _)⟩
 case round =>
  obtain ⟨k,hk,rfl,HNo,HB⟩ := hrel
  by_cases hlt : k < 12
  · have d1 : decide ((k : Int) < 12) = true := decide_eq_true (by omega)
    have hkl : k < cats.length := by rw [cats_len]; exact hlt
    have k0 : (0 : Int) ≤ (k : Int) := by omega
    have k1 : (k : Int) < 12 := by omega
    obtain ⟨b2,off2,e2,hbl,hc⟩ := (HS.out.keep HB.out) (by rw [cats_len]; decide)
    injection e2 with e2
    injection e2 with e3 e4
    subst e3 e4
    have u0 := hc k hkl
    rw [Nat.zero_add] at u0
    have HNx := Lib.hid (cat_next (m := m) hkl HNo.out)
    have HYe := Lib.hid (fun h => named_cat (m := m) hkl h)
    obtain ⟨x,hx⟩ : ∃ x,x = cats[k] := ⟨_,rfl⟩
    rw [← hx] at u0 HNx HYe
    obtain ⟨X,hX⟩ : ∃ X : ByteArray,X = ⟨x.toArray⟩ := ⟨_,rfl⟩
    rw [← hX] at u0
    have C := Lib.hid (CT.out X wr)
    rw [show X.data.toList = x by rw [hX]] at C
    obtain ⟨v,hv⟩ : ∃ v,v = catV x := ⟨_,rfl⟩
    rw [← hv] at C HNx HYe
    clear hc hx hX hv hbl
    by_cases hvm : v = m
    · have hE : ((v : Int) == (m : Int)) = true := beq_iff_eq.2 (by omega)
      have HF := Lib.hid (HYe.out hvm)
      clear hvm HNx HYe
      go_wp2_with fail
      refine C.out.mono ?_
      rintro e w2 ⟨rfl,hb2⟩
      go_wp2_with fail
      go_ret
      exact ⟨ret_bool HF.out.symm,HB1.out.trans ((HB.out.trans (hb2.mono HB.out.size)).mono HB1.out.size)⟩
    · have hE : ((v : Int) == (m : Int)) = false := beq_eq_false_iff_ne.2 (by omega)
      have HN2 := Lib.hid (HNx.out hvm)
      clear hvm HNx HYe
      go_wp2_with fail
      refine C.out.mono ?_
      rintro e w2 ⟨rfl,hb2⟩
      have HB2 := Lib.hid (HB.out.trans (hb2.mono HB.out.size))
      clear hb2
      go_wp2_with fail
      go_roundw
      case rel => exact ⟨k + 1,by omega,by go_num,HN2,HB2⟩
      case measure => simp [intOf]; omega
  · have d1 : decide ((k : Int) < 12) = false := decide_eq_false (by omega)
    have HNA := Lib.hid (show ∀ c ∈ cats,catV c ≠ m by
     have := HNo.out
     rwa [List.take_of_length_le (by rw [cats_len]; omega)] at this)
    have HB2 := Lib.hid (HB1.out.trans (HB.out.mono HB1.out.size))
    clear HNo HB HS HB1 CT
    go_wp2_with fail
    go_loopw [9] (fun i wx => ∃ j : Nat,j ≤ 56 ∧ i = .int .i64 j ∧ Hid (∀ i,i < j → 2 ^ i ≠ m) ∧ wr = wx) (fun i _ => 56 - (intOf i).toNat)
    case atStart => exact ⟨0,Nat.zero_le _,rfl,Lib.hid (fun i hi => absurd hi (by omega)),rfl⟩
    case round =>
     obtain ⟨j,hj,rfl,HNo,rfl⟩ := hrel
     by_cases hlt : j < 56
     · have d2 : decide ((j : Int) < 56) = true := decide_eq_true (by omega)
       have hE := shl_eq m j hlt
       have j0 : (0 : Int) ≤ (j : Int) := by omega
       by_cases hp : 2 ^ j = m
       · rw [decide_eq_true hp] at hE
         have HF := Lib.hid (named_pow hlt hp)
         clear hp
         go_wp2_with fail
         go_ret
         exact ⟨ret_bool HF.out.symm,HB2.out⟩
       · rw [decide_eq_false hp] at hE
         have HN2 := Lib.hid (show ∀ i,i < j + 1 → 2 ^ i ≠ m from fun i hi => by
          rcases Nat.lt_or_ge i j with h | h
          · exact HNo.out i h
          · rw [show i = j by omega]; exact hp)
         clear hp
         go_wp2_with fail
         go_roundw
         case rel => exact ⟨j + 1,by omega,by go_num,HN2,trivial⟩
         case measure => simp [intOf]; omega
     · have d2 : decide ((j : Int) < 56) = false := decide_eq_false (by omega)
       have HF := Lib.hid (named_last HNA.out (fun i hi => HNo.out i (by omega)))
       go_wp2_with fail
       go_ret
       exact ⟨ret_bool HF.out.symm,HB2.out⟩
theorem build_kk (k : Int) (w : World) : (Instr.build 29 #[(0,.int .u8 k)]).run Tryz.prog w = .ok (.agg #[.int .u8 k,.string ⟨#[]⟩,.bool false,.bool false,.int .u64 0]) w := run_build w 29 _ _ (by kernel_rfl)
theorem all_name : catV [97,108,108] = 72057594037927935 ∧ catB [97,108,108] = true := by decide +kernel
def RightC (k m : Nat) (T : ByteArray) (a b : Bool) (w : World) : Prop :=
 Calls Tryz.prog 25 #[.agg #[.int .u8 (k : Int),.string T,.bool a,.bool b,.int .u64 (m : Int)]] w fun e w' => e = .returned (.bool (rightR ⟨k,T.data.toList,a,b,m⟩)) ∧ Below w.heap.size w w'
set_option maxHeartbeats 4000000 in
theorem right_5 (k m : Nat) (T : ByteArray) (a b : Bool) (w : World) (hk : k = 5) (hz : T.size ≤ 1048576) (hm : m < 18446744073709551616) (hk2 : k ≤ 255) : RightC k m T a b w := by
 have CT := Lib.hid (fun S W => RefTab.cat_any S W)
 have bn := RefRule.build_no
 have bk := build_kk
 have bks := RefRule.build_ks
 have bkm := RefRule.build_km
 have bkr := RefRule.build_ksrw
 have HK := Lib.hid hk
 clear hk
 unfold RightC
 obtain ⟨W0,hW0⟩ : ∃ W0,W0 = w.alloc (.cells #[.int .u8 (k : Int),.string T,.bool a,.bool b,.int .u64 (m : Int)] 29) := ⟨_,rfl⟩
 have HBx := Lib.hid (show W0.heap[w.heap.size]? = some (.cells #[.int .u8 (k : Int),.string T,.bool a,.bool b,.int .u64 (m : Int)] 29 (0,0)) by rw [hW0]; exact heap_alloc_last w _)
 have HB0 := Lib.hid (show Below w.heap.size w W0 by rw [hW0]; exact Kit.below1 w _)
 go_enter Tryz.func25,Tryz.ntmps25
 go_upto_region 1 with fail
 rw [← hW0]
 clear hW0
 go_wp2_with fail
 refine (CT.out _ _).mono ?_
 rintro e w2 ⟨rfl,hb2⟩
 have HB := Lib.hid (HB0.out.trans (hb2.mono HB0.out.size))
 have hx : w2.heap[w.heap.size]? = some (.cells #[.int .u8 (k : Int),.string T,.bool a,.bool b,.int .u64 (m : Int)] 29 (0,0)) := by rw [hb2.block _ (Array.getElem?_eq_some_iff.1 HBx.out).1]; exact HBx.out
 obtain ⟨c0,c1,c2,c3,c4⟩ := box_cells hx
 rw [show (⟨#[97,108,108]⟩ : ByteArray).data.toList = [97,108,108] from rfl,all_name.1,all_name.2]
 have hk := HK.out
 clear hx hb2 CT HBx HB0 HK
 subst hk
 rcases a with _ | _
 · rcases b with _ | _
   · by_cases hm0 : m = 0
     · subst hm0
       have HF := Lib.hid (show rightR ⟨5,T.data.toList,false,false,0⟩ = true by simp [rightR])
       go_wp2_with fail
       go_ret
       exact ⟨ret_bool HF.out.symm,HB.out⟩
     · have hm1 : ((m : Int) == 0) = false := beq_eq_false_iff_ne.2 (by omega)
       have HF := Lib.hid (show rightR ⟨5,T.data.toList,false,false,m⟩ = false by simp [rightR,hm0])
       go_wp2_with fail
       go_ret
       exact ⟨ret_bool HF.out.symm,HB.out⟩
   · by_cases hm0 : m = 0
     · subst hm0
       have HF := Lib.hid (show rightR ⟨5,T.data.toList,false,true,0⟩ = false by simp [rightR])
       go_wp2_with fail
       go_ret
       exact ⟨ret_bool HF.out.symm,HB.out⟩
     · have hm1 : ((m : Int) == 0) = false := beq_eq_false_iff_ne.2 (by omega)
       have HF := Lib.hid (show rightR ⟨5,T.data.toList,false,true,m⟩ = false by simp [rightR,hm0])
       go_wp2_with fail
       go_ret
       exact ⟨ret_bool HF.out.symm,HB.out⟩
 · rcases b with _ | _
   · by_cases hm0 : m = 0
     · subst hm0
       have HF := Lib.hid (show rightR ⟨5,T.data.toList,true,false,0⟩ = false by simp [rightR])
       go_wp2_with fail
       go_ret
       exact ⟨ret_bool HF.out.symm,HB.out⟩
     · have hm1 : ((m : Int) == 0) = false := beq_eq_false_iff_ne.2 (by omega)
       have HF := Lib.hid (show rightR ⟨5,T.data.toList,true,false,m⟩ = false by simp [rightR,hm0])
       go_wp2_with fail
       go_ret
       exact ⟨ret_bool HF.out.symm,HB.out⟩
   · by_cases hm0 : m = 0
     · subst hm0
       have HF := Lib.hid (show rightR ⟨5,T.data.toList,true,true,0⟩ = false by simp [rightR])
       go_wp2_with fail
       go_ret
       exact ⟨ret_bool HF.out.symm,HB.out⟩
     · have hm1 : ((m : Int) == 0) = false := beq_eq_false_iff_ne.2 (by omega)
       have HF := Lib.hid (show rightR ⟨5,T.data.toList,true,true,m⟩ = false by simp [rightR,hm0])
       go_wp2_with fail
       go_ret
       exact ⟨ret_bool HF.out.symm,HB.out⟩
set_option maxHeartbeats 4000000 in
theorem right_67 (k m : Nat) (T : ByteArray) (a b : Bool) (w : World) (hk : k = 6 ∨ k = 7) (hz : T.size ≤ 1048576) (hm : m < 18446744073709551616) (hk2 : k ≤ 255) : RightC k m T a b w := by
 have CT := Lib.hid (fun S W => RefTab.cat_any S W)
 have CR := Lib.hid (fun W => RefM.rright_any T W hz)
 obtain ⟨B,hB⟩ : ∃ B,B = MacM.rightB T.data.toList := ⟨_,rfl⟩
 rw [← hB] at CR
 have HBq := Lib.hid hB
 clear hB
 have bn := RefRule.build_no
 have bk := build_kk
 have bks := RefRule.build_ks
 have bkm := RefRule.build_km
 have bkr := RefRule.build_ksrw
 have HK := Lib.hid hk
 clear hk
 unfold RightC
 obtain ⟨W0,hW0⟩ : ∃ W0,W0 = w.alloc (.cells #[.int .u8 (k : Int),.string T,.bool a,.bool b,.int .u64 (m : Int)] 29) := ⟨_,rfl⟩
 have HBx := Lib.hid (show W0.heap[w.heap.size]? = some (.cells #[.int .u8 (k : Int),.string T,.bool a,.bool b,.int .u64 (m : Int)] 29 (0,0)) by rw [hW0]; exact heap_alloc_last w _)
 have HB0 := Lib.hid (show Below w.heap.size w W0 by rw [hW0]; exact Kit.below1 w _)
 go_enter Tryz.func25,Tryz.ntmps25
 go_upto_region 1 with fail
 rw [← hW0]
 clear hW0
 go_wp2_with fail
 refine (CT.out _ _).mono ?_
 rintro e w2 ⟨rfl,hb2⟩
 have HB := Lib.hid (HB0.out.trans (hb2.mono HB0.out.size))
 have hx : w2.heap[w.heap.size]? = some (.cells #[.int .u8 (k : Int),.string T,.bool a,.bool b,.int .u64 (m : Int)] 29 (0,0)) := by rw [hb2.block _ (Array.getElem?_eq_some_iff.1 HBx.out).1]; exact HBx.out
 obtain ⟨c0,c1,c2,c3,c4⟩ := box_cells hx
 rw [show (⟨#[97,108,108]⟩ : ByteArray).data.toList = [97,108,108] from rfl,all_name.1,all_name.2]
 have hk := HK.out
 clear hx hb2 CT HBx HB0 HK
 rcases hk with rfl | rfl
 · skip
   rcases a with _ | _
   · rcases b with _ | _
     · by_cases hm0 : m = 0
       · subst hm0
         have HF := Lib.hid (show rightR ⟨6,T.data.toList,false,false,0⟩ = B by simp [rightR,← HBq.out])
         go_wp2_with fail
         refine (CR.out _).mono ?_
         rintro e w3 ⟨rfl,hb3⟩
         go_wp2_with fail
         go_ret
         exact ⟨ret_bool HF.out.symm,HB.out.trans (hb3.mono HB.out.size)⟩
       · have hm1 : ((m : Int) == 0) = false := beq_eq_false_iff_ne.2 (by omega)
         have HF := Lib.hid (show rightR ⟨6,T.data.toList,false,false,m⟩ = false by simp [rightR,hm0])
         go_wp2_with fail
         go_ret
         exact ⟨ret_bool HF.out.symm,HB.out⟩
     · by_cases hm0 : m = 0
       · subst hm0
         have HF := Lib.hid (show rightR ⟨6,T.data.toList,false,true,0⟩ = false by simp [rightR])
         go_wp2_with fail
         go_ret
         exact ⟨ret_bool HF.out.symm,HB.out⟩
       · have hm1 : ((m : Int) == 0) = false := beq_eq_false_iff_ne.2 (by omega)
         have HF := Lib.hid (show rightR ⟨6,T.data.toList,false,true,m⟩ = false by simp [rightR,hm0])
         go_wp2_with fail
         go_ret
         exact ⟨ret_bool HF.out.symm,HB.out⟩
   · rcases b with _ | _
     · by_cases hm0 : m = 0
       · subst hm0
         have HF := Lib.hid (show rightR ⟨6,T.data.toList,true,false,0⟩ = false by simp [rightR])
         go_wp2_with fail
         go_ret
         exact ⟨ret_bool HF.out.symm,HB.out⟩
       · have hm1 : ((m : Int) == 0) = false := beq_eq_false_iff_ne.2 (by omega)
         have HF := Lib.hid (show rightR ⟨6,T.data.toList,true,false,m⟩ = false by simp [rightR,hm0])
         go_wp2_with fail
         go_ret
         exact ⟨ret_bool HF.out.symm,HB.out⟩
     · by_cases hm0 : m = 0
       · subst hm0
         have HF := Lib.hid (show rightR ⟨6,T.data.toList,true,true,0⟩ = false by simp [rightR])
         go_wp2_with fail
         go_ret
         exact ⟨ret_bool HF.out.symm,HB.out⟩
       · have hm1 : ((m : Int) == 0) = false := beq_eq_false_iff_ne.2 (by omega)
         have HF := Lib.hid (show rightR ⟨6,T.data.toList,true,true,m⟩ = false by simp [rightR,hm0])
         go_wp2_with fail
         go_ret
         exact ⟨ret_bool HF.out.symm,HB.out⟩
 · skip
   rcases a with _ | _
   · rcases b with _ | _
     · by_cases hm0 : m = 0
       · subst hm0
         have HF := Lib.hid (show rightR ⟨7,T.data.toList,false,false,0⟩ = B by simp [rightR,← HBq.out])
         go_wp2_with fail
         refine (CR.out _).mono ?_
         rintro e w3 ⟨rfl,hb3⟩
         go_wp2_with fail
         go_ret
         exact ⟨ret_bool HF.out.symm,HB.out.trans (hb3.mono HB.out.size)⟩
       · have hm1 : ((m : Int) == 0) = false := beq_eq_false_iff_ne.2 (by omega)
         have HF := Lib.hid (show rightR ⟨7,T.data.toList,false,false,m⟩ = false by simp [rightR,hm0])
         go_wp2_with fail
         go_ret
         exact ⟨ret_bool HF.out.symm,HB.out⟩
     · by_cases hm0 : m = 0
       · subst hm0
         have HF := Lib.hid (show rightR ⟨7,T.data.toList,false,true,0⟩ = false by simp [rightR])
         go_wp2_with fail
         go_ret
         exact ⟨ret_bool HF.out.symm,HB.out⟩
       · have hm1 : ((m : Int) == 0) = false := beq_eq_false_iff_ne.2 (by omega)
         have HF := Lib.hid (show rightR ⟨7,T.data.toList,false,true,m⟩ = false by simp [rightR,hm0])
         go_wp2_with fail
         go_ret
         exact ⟨ret_bool HF.out.symm,HB.out⟩
   · rcases b with _ | _
     · by_cases hm0 : m = 0
       · subst hm0
         have HF := Lib.hid (show rightR ⟨7,T.data.toList,true,false,0⟩ = false by simp [rightR])
         go_wp2_with fail
         go_ret
         exact ⟨ret_bool HF.out.symm,HB.out⟩
       · have hm1 : ((m : Int) == 0) = false := beq_eq_false_iff_ne.2 (by omega)
         have HF := Lib.hid (show rightR ⟨7,T.data.toList,true,false,m⟩ = false by simp [rightR,hm0])
         go_wp2_with fail
         go_ret
         exact ⟨ret_bool HF.out.symm,HB.out⟩
     · by_cases hm0 : m = 0
       · subst hm0
         have HF := Lib.hid (show rightR ⟨7,T.data.toList,true,true,0⟩ = false by simp [rightR])
         go_wp2_with fail
         go_ret
         exact ⟨ret_bool HF.out.symm,HB.out⟩
       · have hm1 : ((m : Int) == 0) = false := beq_eq_false_iff_ne.2 (by omega)
         have HF := Lib.hid (show rightR ⟨7,T.data.toList,true,true,m⟩ = false by simp [rightR,hm0])
         go_wp2_with fail
         go_ret
         exact ⟨ret_bool HF.out.symm,HB.out⟩
set_option maxHeartbeats 4000000 in
theorem right_89 (k m : Nat) (T : ByteArray) (a b : Bool) (w : World) (hk : k = 8 ∨ k = 9) (hz : T.size ≤ 1048576) (hm : m < 18446744073709551616) (hk2 : k ≤ 255) : RightC k m T a b w := by
 have CT := Lib.hid (fun S W => RefTab.cat_any S W)
 have CN := Lib.hid (fun W => named_any m W hm)
 obtain ⟨B,hB⟩ : ∃ B,B = namedB m := ⟨_,rfl⟩
 rw [← hB] at CN
 have HBq := Lib.hid hB
 clear hB
 have bn := RefRule.build_no
 have bk := build_kk
 have bks := RefRule.build_ks
 have bkm := RefRule.build_km
 have bkr := RefRule.build_ksrw
 have HK := Lib.hid hk
 clear hk
 unfold RightC
 obtain ⟨W0,hW0⟩ : ∃ W0,W0 = w.alloc (.cells #[.int .u8 (k : Int),.string T,.bool a,.bool b,.int .u64 (m : Int)] 29) := ⟨_,rfl⟩
 have HBx := Lib.hid (show W0.heap[w.heap.size]? = some (.cells #[.int .u8 (k : Int),.string T,.bool a,.bool b,.int .u64 (m : Int)] 29 (0,0)) by rw [hW0]; exact heap_alloc_last w _)
 have HB0 := Lib.hid (show Below w.heap.size w W0 by rw [hW0]; exact Kit.below1 w _)
 go_enter Tryz.func25,Tryz.ntmps25
 go_upto_region 1 with fail
 rw [← hW0]
 clear hW0
 go_wp2_with fail
 refine (CT.out _ _).mono ?_
 rintro e w2 ⟨rfl,hb2⟩
 have HB := Lib.hid (HB0.out.trans (hb2.mono HB0.out.size))
 have hx : w2.heap[w.heap.size]? = some (.cells #[.int .u8 (k : Int),.string T,.bool a,.bool b,.int .u64 (m : Int)] 29 (0,0)) := by rw [hb2.block _ (Array.getElem?_eq_some_iff.1 HBx.out).1]; exact HBx.out
 obtain ⟨c0,c1,c2,c3,c4⟩ := box_cells hx
 rw [show (⟨#[97,108,108]⟩ : ByteArray).data.toList = [97,108,108] from rfl,all_name.1,all_name.2]
 have hk := HK.out
 clear hx hb2 CT HBx HB0 HK
 rcases hk with rfl | rfl
 · by_cases hT : T.data.toList = []
   · obtain rfl : T = ⟨#[]⟩ := RefRule.str_of hT
     rcases a with _ | _
     · rcases b with _ | _
       · skip
         have HF := Lib.hid (show rightR ⟨8,[],false,false,m⟩ = B by simp [rightR,← HBq.out])
         go_wp2_with fail
         refine (CN.out _).mono ?_
         rintro e w3 ⟨rfl,hb3⟩
         go_wp2_with fail
         go_ret
         exact ⟨ret_bool HF.out.symm,HB.out.trans (hb3.mono HB.out.size)⟩
       · skip
         have HF := Lib.hid (show rightR ⟨8,[],false,true,m⟩ = false by simp [rightR])
         go_wp2_with fail
         go_ret
         exact ⟨ret_bool HF.out.symm,HB.out⟩
     · rcases b with _ | _
       · skip
         have HF := Lib.hid (show rightR ⟨8,[],true,false,m⟩ = false by simp [rightR])
         go_wp2_with fail
         go_ret
         exact ⟨ret_bool HF.out.symm,HB.out⟩
       · skip
         have HF := Lib.hid (show rightR ⟨8,[],true,true,m⟩ = false by simp [rightR])
         go_wp2_with fail
         go_ret
         exact ⟨ret_bool HF.out.symm,HB.out⟩
   · have he : T.toList.isEmpty = false := by rw [ByteArray.toList_eq]; simpa using hT
     have HF := Lib.hid (show rightR ⟨8,T.data.toList,a,b,m⟩ = false by simp [rightR,hT])
     clear hT
     go_wp2_with fail
     go_ret
     exact ⟨ret_bool HF.out.symm,HB.out⟩
 · by_cases hT : T.data.toList = []
   · obtain rfl : T = ⟨#[]⟩ := RefRule.str_of hT
     rcases a with _ | _
     · rcases b with _ | _
       · skip
         have HF := Lib.hid (show rightR ⟨9,[],false,false,m⟩ = B by simp [rightR,← HBq.out])
         go_wp2_with fail
         refine (CN.out _).mono ?_
         rintro e w3 ⟨rfl,hb3⟩
         go_wp2_with fail
         go_ret
         exact ⟨ret_bool HF.out.symm,HB.out.trans (hb3.mono HB.out.size)⟩
       · skip
         have HF := Lib.hid (show rightR ⟨9,[],false,true,m⟩ = false by simp [rightR])
         go_wp2_with fail
         go_ret
         exact ⟨ret_bool HF.out.symm,HB.out⟩
     · rcases b with _ | _
       · skip
         have HF := Lib.hid (show rightR ⟨9,[],true,false,m⟩ = false by simp [rightR])
         go_wp2_with fail
         go_ret
         exact ⟨ret_bool HF.out.symm,HB.out⟩
       · skip
         have HF := Lib.hid (show rightR ⟨9,[],true,true,m⟩ = false by simp [rightR])
         go_wp2_with fail
         go_ret
         exact ⟨ret_bool HF.out.symm,HB.out⟩
   · have he : T.toList.isEmpty = false := by rw [ByteArray.toList_eq]; simpa using hT
     have HF := Lib.hid (show rightR ⟨9,T.data.toList,a,b,m⟩ = false by simp [rightR,hT])
     clear hT
     go_wp2_with fail
     go_ret
     exact ⟨ret_bool HF.out.symm,HB.out⟩
end Go.Proofs.YtpoinibckmbfcaaGreatDoor.RefUser
