/-
  Packed by program.
-/
import Derived.Laws.Bits128
import Derived.Laws.StructEq
import Derived.Test.YtpoinibckmbfcaaGreatDoorPk26
import Derived.Test.YtpoinibckmbfcaaGreatDoorPk28
import Derived.Test.YtpoinibckmbfcaaGreatDoorPk18
namespace Go.Proofs.YtpoinibckmbfcaaGreatDoor.TableM
open Go.RowKit Kit TableMath
open RefTab (build_nil results_cell_slot atV_in atV_out cmd_size fits_out fits_low fits_same ar_small)
set_option linter.unusedVariables false
set_option maxRecDepth 100000
set_option maxHeartbeats 1000000 in
theorem at_any (id : Int) (w : World) (h0 : -9223372036854775808 ≤ id) (h1 : id ≤ 9223372036854775807) :
  Calls Tryz.prog 90 #[.int .i64 id] w fun e w' => e = .returned (.tuple #[aggV (atV id),.bool (atB id)]) ∧ Below w.heap.size w w' := by
 have hbz := build_nil
 have HB0 := Lib.hid (Kit.below1 w (.cells #[.string ByteArray.empty,.int .i64 0,.int .u16 0] 80))
 have CA := Lib.hid (fun W => rows_any W)
 by_cases hin : 0 ≤ id ∧ id < 56
 · obtain ⟨k,rfl⟩ := Int.eq_ofNat_of_zero_le hin.1
   have hk : k < 56 := by omega
   have HV := Lib.hid (show atV (k : Int) = cmdAt k from atV_in hin.1 hin.2)
   have HVb := Lib.hid (show atB (k : Int) = true by unfold atB; exact decide_eq_true hin)
   have d1 : decide ((k : Int) < 0) = false := decide_eq_false (by omega)
   have d2 : decide ((56 : Int) ≤ (k : Int)) = false := decide_eq_false (by omega)
   have hidx := idx_row k hk
   obtain ⟨K,hK⟩ : ∃ K,K = cmdAt k := ⟨_,rfl⟩
   rw [← hK] at hidx
   obtain ⟨S,hS⟩ : ∃ S : ByteArray,S = ⟨K.name.toArray⟩ := ⟨_,rfl⟩
   obtain ⟨r,hr⟩ : ∃ r,r = K.ar := ⟨_,rfl⟩
   obtain ⟨g,hg⟩ : ∃ g : Int,g = (K.ct : Int) := ⟨_,rfl⟩
   rw [← hS,← hr,← hg] at hidx
   have HAg := Lib.hid (show aggV (atV (k : Int)) = .agg #[.string S,.int .i64 r,.int .u16 g] by rw [HV.out,← hK,hS,hr,hg]; rfl)
   have HC := Lib.hid (show (Tryz.prog.info? 80).map (·.size) = some (#[.string S,.int .i64 r,.int .u16 g] : Array Value).size from cmd_size)
   have HOn := Lib.hid (show (#[.string S,.int .i64 r,.int .u16 g] : Array Value).all (·.oneCell') = true by simp [Value.oneCell'])
   clear hin hS hr hg hK HV
   generalize rowsC = C at CA hidx
   go_enter Tryz.func90,Tryz.ntmps90
   go_wp2_with fail
   refine (CA.out _).mono ?_
   rintro e w1 ⟨rfl,hb1⟩
   have HT := Lib.hid (show (w1.heap[w.heap.size]? = some (.cells #[.string ByteArray.empty,.int .i64 0,.int .u16 0] 80 (0,0))) by rw [hb1.block w.heap.size (by simp)]; exact heap_alloc_last w _)
   replace HT := Lib.hid (show ((w1.alloc (.cells #[.string S,.int .i64 r,.int .u16 g] 136)).heap[w.heap.size]? = some (.cells #[.string ByteArray.empty,.int .i64 0,.int .u16 0] 80 (0,0))) by rw [Below.heap_alloc w1 _ w.heap.size (by have := hb1.size; simp at this; omega)]; exact HT.out)
   have HB1 := Lib.hid ((HB0.out.trans (hb1.mono HB0.out.size)).alloc (HB0.out.trans (hb1.mono HB0.out.size)).size (.cells #[.string S,.int .i64 r,.int .u16 g] 136))
   clear hb1 CA HB0
   go_wp2_with (with_reducible refine wpList_store_row rfl 80 (.tmp 2) (.tmp 21) rfl w.heap.size #[.string S,.int .i64 r,.int .u16 g] rfl rfl 80 _ HT.out HC.out rfl HOn.out ?_)
   exact bodyPost_ret (results_cell_slot rfl _ _ w.heap.size 80 #[.string S,.int .i64 r,.int .u16 g] (0,0) _ (.bool true) rfl (setRow_heap _ w.heap.size _ _ _ _ HT.out) Tryz.underlying80 rfl HC.out rfl) rfl ⟨by rw [HAg.out,HVb.out],below_setRow HB1.out (Nat.le_refl _) _⟩
 · have HV := Lib.hid (show atV id = nil from atV_out hin)
   have HVb := Lib.hid (show atB id = false by unfold atB; exact decide_eq_false hin)
   have HC := Lib.hid (show (Tryz.prog.info? 80).map (·.size) = some (#[.string ⟨#[]⟩,.int .i64 0,.int .u16 0] : Array Value).size from cmd_size)
   have HOn := Lib.hid (show (#[.string ⟨#[]⟩,.int .i64 0,.int .u16 0] : Array Value).all (·.oneCell') = true by simp [Value.oneCell'])
   have tst : decide (id < 0) = true ∨ (decide (id < 0) = false ∧ decide ((56 : Int) ≤ id) = true) := by
    simp only [decide_eq_true_eq,decide_eq_false_iff_not]
    omega
   clear hin CA
   rcases tst with d1 | ⟨d1,d2⟩
   all_goals
    go_enter Tryz.func90,Tryz.ntmps90
    go_wp2_with (with_reducible refine wpList_store_row rfl 80 (.tmp 2) (.tmp 11) rfl w.heap.size #[.string ⟨#[]⟩,.int .i64 0,.int .u16 0] rfl rfl 80 _ (heap_alloc_last _ _) HC.out rfl HOn.out ?_)
    exact bodyPost_ret (results_cell_slot rfl _ _ w.heap.size 80 #[.string ⟨#[]⟩,.int .i64 0,.int .u16 0] (0,0) _ (.bool false) rfl (setRow_heap _ w.heap.size _ _ _ _ (heap_alloc_last _ _)) Tryz.underlying80 rfl HC.out rfl) rfl ⟨by rw [HV.out,HVb.out]; rfl,below_setRow HB0.out (Nat.le_refl _) _⟩
theorem count_any (w : World) : Calls Tryz.prog 89 #[] w fun e w' => e = .returned (.int .i64 56) ∧ Below w.heap.size w w' := by
 go_enter Tryz.func89,Tryz.ntmps89
 go_wp2_with fail
 go_ret
 exact ⟨rfl,Below.refl _ _⟩
end Go.Proofs.YtpoinibckmbfcaaGreatDoor.TableM
namespace Go.Proofs.YtpoinibckmbfcaaGreatDoor.UserM
open Go.RowKit Kit StrT RowG RuleT UserT UserR TableMath Low ValT PopT
open Go.Sort (grow)
set_option linter.unusedVariables false
set_option maxRecDepth 100000
theorem and_nat (a b : Nat) (ha : a < 18446744073709551616) (hb : b < 18446744073709551616) : bits .and .u64 (a : Int) (b : Int) = ((a &&& b : Nat) : Int) := u64_and_nat a b ha hb
theorem and_add (x y m : Nat) (hx : x < 18446744073709551616) (hy : y < 18446744073709551616) (hm : 2 * m < 18446744073709551616) : IntKind.u64.wrap (bits .and .u64 (x : Int) (m : Int) + bits .and .u64 (y : Int) (m : Int)) = (((x &&& m) + (y &&& m) : Nat) : Int) ∧ (x &&& m) + (y &&& m) ≤ 2 * m := by
 have h1 : x &&& m ≤ m := Nat.and_le_right
 have h2 : y &&& m ≤ m := Nat.and_le_right
 rw [and_nat x m hx (by omega),and_nat y m hy (by omega),IntKind.wrap_u64]
 omega
theorem half_add (x k B : Nat) (hx : x ≤ B) (hB : 2 * B < 18446744073709551616) : IntKind.u64.wrap ((x : Int) + (x : Int) / (k : Int)) = ((x + x / k : Nat) : Int) := by
 have h1 : x / k ≤ x := Nat.div_le_self _ _
 have h2 : ((x : Int) / (k : Int)) = ((x / k : Nat) : Int) := by simp
 rw [h2,IntKind.wrap_u64]
 generalize x / k = y at h1 ⊢
 omega
theorem popA_val (x : Nat) (hx : x < 18446744073709551616) : IntKind.u64.wrap (bits .and .u64 ((x : Int) / 2) 6148914691236517205 + bits .and .u64 (x : Int) 6148914691236517205) = (popA x : Int) ∧ popA x ≤ 12297829382473034410 := by
 have h := and_add (x / 2) x 6148914691236517205 (by omega) hx (by decide)
 rw [show (((x / 2 : Nat)) : Int) = (x : Int) / 2 by simp] at h
 exact h
theorem popB_val (x : Nat) (hx : x ≤ 12297829382473034410) : IntKind.u64.wrap (bits .and .u64 ((x : Int) / 4) 3689348814741910323 + bits .and .u64 (x : Int) 3689348814741910323) = (popB x : Int) ∧ popB x ≤ 7378697629483820646 := by
 have h := and_add (x / 4) x 3689348814741910323 (by omega) (by omega) (by decide)
 rw [show (((x / 4 : Nat)) : Int) = (x : Int) / 4 by simp] at h
 exact h
theorem popC_val (x : Nat) (hx : x ≤ 7378697629483820646) : bits .and .u64 (IntKind.u64.wrap ((x : Int) / 16 + (x : Int))) 1085102592571150095 = (popC x : Int) ∧ popC x ≤ 1085102592571150095 := by
 have h1 : IntKind.u64.wrap ((x : Int) / 16 + (x : Int)) = ((x / 16 + x : Nat) : Int) := by
  rw [IntKind.wrap_u64]
  omega
 rw [h1]
 exact ⟨and_nat (x / 16 + x) 1085102592571150095 (by omega) (by decide),Nat.and_le_right⟩
theorem popD_val (x : Nat) (hx : x ≤ 1085102592571150095) : IntKind.u64.wrap ((x : Int) + (x : Int) / 256) = (popD x : Int) ∧ popD x ≤ 1090000000000000000 := by
 refine ⟨half_add x 256 1085102592571150095 hx (by decide),?_⟩
 unfold popD
 omega
theorem popE_val (x : Nat) (hx : x ≤ 1090000000000000000) : IntKind.u64.wrap ((x : Int) + (x : Int) / 65536) = (popE x : Int) ∧ popE x ≤ 1091000000000000000 := by
 refine ⟨half_add x 65536 1090000000000000000 hx (by decide),?_⟩
 unfold popE
 omega
theorem popG_val (x : Nat) (hx : x ≤ 1091000000000000000) : IntKind.u64.wrap ((x : Int) + (x : Int) / 4294967296) = (popG x : Int) ∧ popG x ≤ 1092000000000000000 := by
 refine ⟨half_add x 4294967296 1091000000000000000 hx (by decide),?_⟩
 unfold popG
 omega
theorem pop_steps (x : Nat) (hx : x < 18446744073709551616) : ∃ xa xb xc xd xe xg : Nat,IntKind.u64.wrap (bits .and .u64 ((x : Int) / 2) 6148914691236517205 + bits .and .u64 (x : Int) 6148914691236517205) = (xa : Int) ∧ IntKind.u64.wrap (bits .and .u64 ((xa : Int) / 4) 3689348814741910323 + bits .and .u64 (xa : Int) 3689348814741910323) = (xb : Int) ∧ bits .and .u64 (IntKind.u64.wrap ((xb : Int) / 16 + (xb : Int))) 1085102592571150095 = (xc : Int) ∧ IntKind.u64.wrap ((xc : Int) + (xc : Int) / 256) = (xd : Int) ∧ IntKind.u64.wrap ((xd : Int) + (xd : Int) / 65536) = (xe : Int) ∧ IntKind.u64.wrap ((xe : Int) + (xe : Int) / 4294967296) = (xg : Int) ∧ IntKind.i64.wrap (xg : Int) = (xg : Int) ∧ bits .and .i64 (xg : Int) 127 = ((xg &&& 127 : Nat) : Int) ∧ popF x = xg &&& 127 := by
 obtain ⟨hA,bA⟩ := popA_val x hx
 obtain ⟨hB,bB⟩ := popB_val _ bA
 obtain ⟨hC,bC⟩ := popC_val _ bB
 obtain ⟨hD,bD⟩ := popD_val _ bC
 obtain ⟨hE,bE⟩ := popE_val _ bD
 obtain ⟨hG,bG⟩ := popG_val _ bE
 exact ⟨_,_,_,_,_,_,hA,hB,hC,hD,hE,hG,IntWalk.i64_in _ (by omega),(by rw [i64_and127,show (127 : Nat) = 2 ^ 7 - 1 from rfl,Nat.and_two_pow_sub_one_eq_mod]; omega),rfl⟩
set_option maxHeartbeats 1000000 in
theorem ones_any (x : Nat) (hx : x < 18446744073709551616) (w : World) :
  Calls Tryz.prog 132 #[.int .u64 (x : Int)] w fun e w' => e = .returned (.int .i64 (popF x : Int)) ∧ w = w' := by
 obtain ⟨xa,xb,xc,xd,xe,xg,hA,hB,hC,hD,hE,hG,hL,hF,hP⟩ := pop_steps x hx
 rw [hP]
 have HA := Lib.hid hA
 have HB := Lib.hid hB
 have HC := Lib.hid hC
 have HD := Lib.hid hD
 have HE := Lib.hid hE
 have HG := Lib.hid hG
 have HF := Lib.hid hF
 have HL := Lib.hid hL
 clear hA hB hC hD hE hG hF hL hP
 go_enter Tryz.func132,Tryz.ntmps132
 go_upto_region 2 with fail
 rw [HA.out]
 go_upto_region 3 with fail
 rw [HB.out]
 go_upto_region 4 with fail
 rw [HC.out]
 go_upto_region 5 with fail
 rw [HD.out]
 go_upto_region 6 with fail
 rw [HE.out]
 go_upto_region 7 with fail
 rw [HG.out]
 have hL := HL.out
 have hF := HF.out
 go_wp2_with fail
 go_ret
 exact ⟨rfl,rfl⟩
end Go.Proofs.YtpoinibckmbfcaaGreatDoor.UserM
namespace Go.Proofs.YtpoinibckmbfcaaGreatDoor.UserM
open Go.RowKit Kit StrT RowG RuleT UserT UserR TableMath Low ValT PopT
open Go.Sort (grow)
set_option linter.unusedVariables false
set_option maxRecDepth 100000
theorem eq_rule (v r : RV) (W : World) : (binOp .eql 29 v.agg r.agg).run Tryz.prog W = .ok (.bool (decide (v = r))) W := by
 obtain ⟨k1,s1,a1,b1,m1⟩ := v
 obtain ⟨k2,s2,a2,b2,m2⟩ := r
 unfold RV.agg
 dsimp only
 have e1 : ((⟨s1.toArray⟩ : ByteArray).toList == (⟨s2.toArray⟩ : ByteArray).toList) = decide (s1 = s2) := by
  rw [ByteArray.toList_eq,ByteArray.toList_eq,Bool.eq_iff_iff,beq_iff_eq,decide_eq_true_eq]
 by_cases h1 : k1 = k2
 · by_cases h2 : s1 = s2
   · rw [decide_eq_true h2] at e1
     by_cases h5 : m1 = m2
     · subst h1 h2 h5
       cases a1 <;> cases a2 <;> cases b1 <;> cases b2 <;> go_simp
     · subst h1 h2
       rw [decide_eq_false (by simp [h5])]
       cases a1 <;> cases a2 <;> cases b1 <;> cases b2 <;> go_simp
       all_goals exact fun e => h5 (Int.ofNat.inj e)
   · subst h1
     rw [decide_eq_false h2] at e1
     rw [decide_eq_false (by simp [h2])]
     go_simp
 · rw [decide_eq_false (by simp [h1])]
   go_simp
   exact fun e => absurd (Int.ofNat.inj e) h1
theorem add_l (M T V : ByteArray) (hz : T.size ≤ 2097152) (hM : M.size ≤ 64) (hV : V.data.toList = M.data.toList ++ T.data.toList) (W : World) : (Op.stringOp .add M T).run Tryz.prog W = .ok (.string V) W := by
 have e : V = M ++ T := by
  obtain ⟨⟨v⟩⟩ := V
  obtain ⟨⟨x⟩⟩ := M
  obtain ⟨⟨y⟩⟩ := T
  simp only at hV
  subst hV
  rfl
 rw [e]
 exact run_string_add_sum W M T (by omega)
theorem str_s (l : List UInt8) : ∃ S : ByteArray,S.data.toList = l ∧ (⟨l.toArray⟩ : ByteArray) = S := ⟨⟨l.toArray⟩,rfl,rfl⟩
set_option maxHeartbeats 1000000 in
theorem keyw_any (S : ByteArray) (r w : Bool) (W : World) (hz : S.size ≤ 1048576) :
  Calls Tryz.prog 52 #[.agg #[.string S,.bool r,.bool w]] W fun e w' => e = .returned (.string ⟨(keysWd S.data.toList r w).toArray⟩) ∧ Below W.heap.size W w' := by
 have hb := Kit.below1 W (.cells #[.string S,.bool r,.bool w] 55)
 have hx : (W.alloc (.cells #[.string S,.bool r,.bool w] 55)).heap[W.heap.size]? = some (.cells #[.string S,.bool r,.bool w] 55 (0,0)) := heap_alloc_last W _
 have c0 : (W.alloc (.cells #[.string S,.bool r,.bool w] 55)).cell? ⟨W.heap.size,0,none⟩ = some (.string S) := by rw [cell_of_row _ _ _ _ _ _ hx]; rfl
 have c1 : (W.alloc (.cells #[.string S,.bool r,.bool w] 55)).cell? ⟨W.heap.size,1,none⟩ = some (.bool r) := by rw [cell_of_row _ _ _ _ _ _ hx]; rfl
 have c2 : (W.alloc (.cells #[.string S,.bool r,.bool w] 55)).cell? ⟨W.heap.size,2,none⟩ = some (.bool w) := by rw [cell_of_row _ _ _ _ _ _ hx]; rfl
 have HB := Lib.hid hb
 clear hx hb
 obtain ⟨V,hV,hV2⟩ := str_s (keysWd S.data.toList r w)
 rw [hV2]
 clear hV2
 generalize hW1 : W.alloc (.cells #[.string S,.bool r,.bool w] 55) = W1 at c0 c1 c2 HB
 have HW := Lib.hid hW1
 clear hW1
 cases r <;> cases w
 · have e0 : V = ⟨#[]⟩ := RefRule.str_of hV
   subst e0
   clear hV
   go_enter Tryz.func52,Tryz.ntmps52
   go_upto_region 1 with fail
   rw [HW.out]
   go_wp2_with fail
   go_ret
   exact ⟨rfl,HB.out⟩
 · have a0 := add_l ⟨#[37,87,126]⟩ S V (by omega) (by decide) hV
   clear hV
   go_enter Tryz.func52,Tryz.ntmps52
   go_upto_region 1 with fail
   rw [HW.out]
   go_wp2_with fail
   go_ret
   exact ⟨rfl,HB.out⟩
 · have a0 := add_l ⟨#[37,82,126]⟩ S V (by omega) (by decide) hV
   clear hV
   go_enter Tryz.func52,Tryz.ntmps52
   go_upto_region 1 with fail
   rw [HW.out]
   go_wp2_with fail
   go_ret
   exact ⟨rfl,HB.out⟩
 · have a0 := add_l ⟨#[126]⟩ S V (by omega) (by decide) hV
   clear hV
   go_enter Tryz.func52,Tryz.ntmps52
   go_upto_region 1 with fail
   rw [HW.out]
   go_wp2_with fail
   go_ret
   exact ⟨rfl,HB.out⟩
theorem ctz_all : (List.range 64).all (fun i => decide (Lib.ctz 64 (2 ^ i) = i)) = true := by decide +kernel
theorem ctz_pow (i : Nat) (h : i < 64) : Lib.ctz 64 (2 ^ i) = i := of_decide_eq_true (List.all_eq_true.1 ctz_all i (List.mem_range.2 h))
theorem catsA_len : catsA.length = 13 := rfl
theorem catsA_short : catsA.all (fun c => decide (c.length ≤ 20)) = true := by decide +kernel
theorem atV_name (i : Nat) (hi : i < 64) : (atV (i : Int)).name = cmdN i := by
 unfold atV cmdN
 by_cases h : i < 56
 · rw [if_pos h,if_pos (by omega)]
   rfl
 · rw [if_neg h,if_neg (by omega)]
   rfl
theorem aggV_is (c : Cmd) : aggV c = .agg #[.string ⟨c.name.toArray⟩,.int .i64 c.ar,.int .u16 (c.ct : Int)] := rfl
theorem find_at {L : List (List UInt8)} {p : List UInt8 → Bool} {k : Nat} (hk : k < L.length) (h1 : ∀ c ∈ L.take k,p c = false) (h2 : p L[k] = true) : L.find? p = some L[k] := by
 conv => lhs; rw [← List.take_append_drop k L]
 rw [List.find?_append]
 have : (L.take k).find? p = none := List.find?_eq_none.2 (fun c hc => by rw [h1 c hc]; exact Bool.false_ne_true)
 rw [this,List.drop_eq_getElem_cons hk,List.find?_cons,h2]
 rfl
set_option maxHeartbeats 1000000 in
theorem cats_own (w : World) : Calls Tryz.prog 114 #[] w fun e w' => ∃ c,e = .returned (.slice (some ⟨w.heap.size,0,none⟩) 12 c) ∧ OwnR strE w.heap.size w' (.slice (some ⟨w.heap.size,0,none⟩) 12 c) cats ∧ Below w.heap.size w w' := by
 have HO := Lib.hid (fun cs (h : cs = (flat strE cats).toArray) => ownR_lit strE w.heap.size w (w.alloc (.cells cs strE.ty)) cats cs w.heap.size 12 h rfl rfl rfl (Nat.le_refl _) (by decide))
 go_enter Tryz.func114,Tryz.ntmps114
 go_wp2_with fail
 go_ret
 exact ⟨12,rfl,HO.out _ rfl,Kit.below1 _ _⟩
set_option maxHeartbeats 2000000 in
theorem maskw_any (m : Nat) (hm : m < 18446744073709551616) (w : World) (hg : Gu w) :
  Calls Tryz.prog 102 #[.int .u64 (m : Int)] w fun e w' => e = .returned (.string ⟨(maskWd m).toArray⟩) ∧ Below w.heap.size w w' := by
 have CO := Lib.hid (ones_any m hm w)
 by_cases h1 : popF m = 1
 · obtain ⟨i,hi,rfl⟩ := pop_one hm h1
   have hw : maskWd (2 ^ i) = cmdN i := by
    unfold maskWd
    rw [if_pos h1,bitAt_pow i hi]
   rw [hw]
   have CZ := Lib.hid (Tryz.bits_TrailingZeros64 (2 ^ i) hm w (fun _ => hg.z.at_))
   have CA := Lib.hid (TableM.at_any (i : Int) w (by omega) (by omega))
   rw [ctz_pow i hi] at CZ
   rw [aggV_is,atV_name i hi] at CA
   rw [h1] at CO
   obtain ⟨V,hV,hV2⟩ := str_s (cmdN i)
   rw [hV2] at CA ⊢
   generalize (atV (i : Int)).ar = ar at CA
   generalize ((atV (i : Int)).ct : Int) = ct at CA
   generalize atB (i : Int) = ok at CA
   generalize ((2 ^ i : Nat) : Int) = mm at CO CZ ⊢
   clear hV hV2 hw h1 hm hg
   have HCs := Lib.hid (show (Tryz.prog.info? 80).map (·.size) = some (#[.string V,.int .i64 ar,.int .u16 ct] : Array Value).size from RefTab.cmd_size)
   have HOn := Lib.hid (show (#[.string V,.int .i64 ar,.int .u16 ct] : Array Value).all (·.oneCell') = true by simp [Value.oneCell'])
   go_enter Tryz.func102,Tryz.ntmps102
   go_wp2_with fail
   with_reducible refine CO.out.mono ?_
   rintro e w1 ⟨rfl,rfl⟩
   go_wp2_with fail
   with_reducible refine CZ.out.mono ?_
   rintro e w1 ⟨rfl,rfl⟩
   go_wp2_with fail
   with_reducible refine CA.out.mono ?_
   rintro e w2 ⟨rfl,hb⟩
   have HB := Lib.hid hb
   clear hb CA CO CZ
   go_wp2_with fail
   go_ret
   exact ⟨rfl,HB.out.alloc HB.out.size _⟩
 · have hp : ((popF m : Int) == 1) = false := by rw [beq_eq_false_iff_ne]; omega
   have hp2 : ¬ popF m = 1 := h1
   obtain ⟨z,hz⟩ : ∃ z,z = popF m := ⟨_,rfl⟩
   rw [← hz] at hp CO hp2
   have hW : maskWd m = (match catsA.find? fun c => decide (catV c = m) with | some c => 64 :: c | none => []) := if_neg h1
   rw [hW]
   obtain ⟨V,hV,hV2⟩ := str_s (match catsA.find? fun c => decide (catV c = m) with | some c => 64 :: c | none => [])
   rw [hV2]
   have HV := Lib.hid hV
   clear hV hV2
   have CC := Lib.hid (cats_own w)
   have HN := Lib.hid (fun (W : World) => rec_new strE W W.heap.size [97,108,108] #[.string ⟨#[97,108,108]⟩] rfl rfl)
   have CT := Lib.hid (fun (T : ByteArray) (W : World) (h : T.size ≤ 20) => TableM.cat_any T W (by omega))
   clear h1 hW hz hg
   go_enter Tryz.func102,Tryz.ntmps102
   go_wp2_with fail
   with_reducible refine CO.out.mono ?_
   rintro e w1 ⟨rfl,rfl⟩
   go_wp2_with fail
   with_reducible refine CC.out.mono ?_
   rintro e w1 ⟨c1,rfl,ho,hb⟩
   have HO1 := Lib.hid (ho.keep (show Below w1.heap.size w1 (w1.alloc (.cells #[.string ⟨#[97,108,108]⟩] strE.ty)) from Kit.below1 _ _))
   have HB1 := Lib.hid (hb.alloc hb.size (.cells #[.string ⟨#[97,108,108]⟩] strE.ty))
   clear ho hb CO CC hp hp2
   go_wp2_with (at_builtin; refine wpList_append_r strE (w0 := w) rfl (.tmp 20) (.tmp 21) rfl _ _ rfl HO1.out HB1.out w1.heap.size [97,108,108] 1 rfl (HN.out w1) (by decide) ?_; intro v' w2 hown hb2; obtain ⟨q2,c2,hv,-⟩ := OwnR.ans hown; obtain rfl : v' = .slice q2 13 c2 := hv)
   have HR := Lib.hid (show RowIn strE w2 q2 13 c2 catsA from own_in hown (by decide))
   have HB2 := Lib.hid hb2
   clear hown hb2 HO1 HB1 HN
   go_loopw [24] (fun i wr => ∃ k : Nat,k ≤ 13 ∧ i = .int .i64 (k : Int) ∧ Hid (∀ c ∈ catsA.take k,decide (catV c = m) = false) ∧ Hid (Below w2.heap.size w2 wr)) (fun i _ => 13 - (intOf i).toNat)
   case atStart => exact ⟨0,Nat.zero_le _,rfl,Lib.hid (fun c hc => by cases hc),Lib.hid (Below.refl _ _)⟩
   case round =>
    obtain ⟨k,hk,rfl,HF,HBr⟩ := hrel
    by_cases hlt : k < 13
    · have d1 : decide ((k : Int) < 13) = true := decide_eq_true (by omega)
      have k0 : (0 : Int) ≤ (k : Int) := by omega
      have k1 : (k : Int) < 13 := by omega
      have hkl : k < catsA.length := by rw [catsA_len]; exact hlt
      obtain ⟨b,off,rfl,hbl,hc⟩ := (rs_ss.1 (HR.out.r.keep HBr.out)) (by rw [catsA_len]; decide)
      have v0 := hc k hkl
      obtain ⟨X,hX⟩ : ∃ X : ByteArray,X = ⟨(catsA[k]'hkl).toArray⟩ := ⟨_,rfl⟩
      rw [← hX] at v0
      have hXd : X.data.toList = catsA[k]'hkl := by rw [hX]
      have hXl : X.size ≤ 20 := by
       have h2 := of_decide_eq_true (List.all_eq_true.1 catsA_short _ (List.getElem_mem hkl))
       have h3 : X.data.toList.length = X.size := by simp
       rw [hXd] at h3
       omega
      have hXb : catB X.data.toList = true := by rw [hXd]; exact List.all_eq_true.1 catsA_ok _ (List.getElem_mem hkl)
      have CX := CT.out X wr hXl
      rw [hXb] at CX
      have hv0 : catV X.data.toList ≤ allM := by
       rw [hXd]
       rcases List.mem_append.1 (List.getElem_mem hkl) with h2 | h2
       · exact of_decide_eq_true (List.all_eq_true.1 cat_le _ h2)
       · rw [List.mem_singleton.1 h2,cat_whole.1]
         exact Nat.le_refl _
      obtain ⟨v,hv⟩ : ∃ v,v = catV X.data.toList := ⟨_,rfl⟩
      rw [← hv] at CX
      have HCX := Lib.hid CX
      have hvk : catV (catsA[k]'hkl) = v := by rw [hv,hXd]
      have HX := Lib.hid hXd
      clear CX hX hc hv0 hXb
      by_cases he : v = m
      · have e1 : ((v : Int) == (m : Int)) = true := by rw [he]; exact beq_self_eq_true _
        have hf := find_at (p := fun c => decide (catV c = m)) hkl HF.out (decide_eq_true (hvk.trans he))
        have hV3 : V.data.toList = (⟨#[64]⟩ : ByteArray).data.toList ++ X.data.toList := by
         rw [HV.out,hf,HX.out]
         rfl
        have a0 := add_l ⟨#[64]⟩ X V (by omega) (by decide) hV3
        have he2 : v = m := he
        clear hV3 hf hXd hvk hv he HF
        go_wp2_with fail
        with_reducible refine HCX.out.mono ?_
        rintro e w3 ⟨rfl,hb3⟩
        have HB3 := Lib.hid (HBr.out.trans (hb3.mono HBr.out.size))
        clear hb3 HBr v0 HCX
        go_wp2_with fail
        go_ret
        exact ⟨rfl,HB2.out.trans (HB3.out.mono HB2.out.size)⟩
      · have e1 : ((v : Int) == (m : Int)) = false := by rw [beq_eq_false_iff_ne]; omega
        have HF2 := Lib.hid (show ∀ c ∈ catsA.take (k + 1),decide (catV c = m) = false from fun c hc => by
         rw [List.take_succ_eq_append_getElem hkl] at hc
         rcases List.mem_append.1 hc with hc | hc
         · exact HF.out c hc
         · rw [List.mem_singleton.1 hc,hvk]
           exact decide_eq_false he)
        clear hXd hvk hv HF
        go_wp2_with fail
        with_reducible refine HCX.out.mono ?_
        rintro e w3 ⟨rfl,hb3⟩
        have HB3 := Lib.hid (HBr.out.trans (hb3.mono HBr.out.size))
        clear hb3 HBr v0 HCX
        go_wp2_with fail
        go_roundw
        case rel => exact ⟨k + 1,by omega,by go_num,HF2,HB3⟩
        case measure => simp [intOf]; omega
    · obtain rfl : k = 13 := by omega
      have hf : catsA.find? (fun c => decide (catV c = m)) = none := List.find?_eq_none.2 (fun c hc => by
       have := HF.out c (by rw [List.take_of_length_le (by rw [catsA_len]; exact Nat.le_refl _)]; exact hc)
       rw [this]
       exact Bool.false_ne_true)
      have hV3 : V.data.toList = [] := by rw [HV.out,hf]
      obtain rfl : V = ⟨#[]⟩ := RefRule.str_of hV3
      clear hf hV3 HF
      go_wp2_with fail
      go_ret
      exact ⟨rfl,HB2.out.trans (HBr.out.mono HB2.out.size)⟩
end Go.Proofs.YtpoinibckmbfcaaGreatDoor.UserM
namespace Go.Proofs.YtpoinibckmbfcaaGreatDoor.UserM
open Go.RowKit Kit StrT RowG RuleT UserT UserR TableMath Low ValT PopT RefUser
open Go.Sort (grow)
set_option linter.unusedVariables false
set_option maxRecDepth 100000
def RwC (k m : Nat) (T : ByteArray) (a b : Bool) (W : World) : Prop :=
 Calls Tryz.prog 62 #[.agg #[.int .u8 (k : Int),.string T,.bool a,.bool b,.int .u64 (m : Int)]] W fun e w' => e = .returned (.string ⟨(wordR ⟨k,T.data.toList,a,b,m⟩).toArray⟩) ∧ Below W.heap.size W w'
theorem maskWd_len (m : Nat) : (maskWd m).length ≤ 21 := by
 unfold maskWd
 split
 · unfold cmdN
   split
   · rename_i h
     have := (name_letters _ h).2.1
     omega
   · simp
 · split
   · rename_i c hc
     have h2 := of_decide_eq_true (List.all_eq_true.1 catsA_short _ (List.mem_of_find?_eq_some hc))
     simp
     omega
   · simp
set_option maxHeartbeats 1000000 in
theorem rw_1 (m : Nat) (T : ByteArray) (a b : Bool) (W : World) (hz : T.size ≤ 1048576) (hm : m < 18446744073709551616) (hg : Gu W) : RwC 1 m T a b W := by
 have hb := Kit.below1 W (.cells #[.int .u8 1,.string T,.bool a,.bool b,.int .u64 (m : Int)] 29)
 have hx := heap_alloc_last W (.cells #[.int .u8 1,.string T,.bool a,.bool b,.int .u64 (m : Int)] 29)
 generalize hW1 : W.alloc (.cells #[.int .u8 1,.string T,.bool a,.bool b,.int .u64 (m : Int)] 29) = W1 at hx hb
 obtain ⟨c0,c1,c2,c3,c4⟩ := box_cells hx
 have HB := Lib.hid hb
 have HG := Lib.hid (hg.keep hb)
 have HW := Lib.hid hW1
 clear hx hb hW1 hg
 unfold RwC
 obtain ⟨V,hV,hV2⟩ := str_s (wordR ⟨1,T.data.toList,a,b,m⟩)
 rw [hV2]
 clear hV2
 have e0 : V = ⟨#[111,110]⟩ := RefRule.str_of hV
 subst e0
 clear hV
 go_enter Tryz.func62,Tryz.ntmps62
 go_upto_region 1 with fail
 rw [HW.out]
 go_wp2_with fail
 go_ret
 exact ⟨rfl,HB.out⟩
set_option maxHeartbeats 1000000 in
theorem rw_2 (m : Nat) (T : ByteArray) (a b : Bool) (W : World) (hz : T.size ≤ 1048576) (hm : m < 18446744073709551616) (hg : Gu W) : RwC 2 m T a b W := by
 have hb := Kit.below1 W (.cells #[.int .u8 2,.string T,.bool a,.bool b,.int .u64 (m : Int)] 29)
 have hx := heap_alloc_last W (.cells #[.int .u8 2,.string T,.bool a,.bool b,.int .u64 (m : Int)] 29)
 generalize hW1 : W.alloc (.cells #[.int .u8 2,.string T,.bool a,.bool b,.int .u64 (m : Int)] 29) = W1 at hx hb
 obtain ⟨c0,c1,c2,c3,c4⟩ := box_cells hx
 have HB := Lib.hid hb
 have HG := Lib.hid (hg.keep hb)
 have HW := Lib.hid hW1
 clear hx hb hW1 hg
 unfold RwC
 obtain ⟨V,hV,hV2⟩ := str_s (wordR ⟨2,T.data.toList,a,b,m⟩)
 rw [hV2]
 clear hV2
 have e0 : V = ⟨#[111,102,102]⟩ := RefRule.str_of hV
 subst e0
 clear hV
 go_enter Tryz.func62,Tryz.ntmps62
 go_upto_region 1 with fail
 rw [HW.out]
 go_wp2_with fail
 go_ret
 exact ⟨rfl,HB.out⟩
set_option maxHeartbeats 1000000 in
theorem rw_3 (m : Nat) (T : ByteArray) (a b : Bool) (W : World) (hz : T.size ≤ 1048576) (hm : m < 18446744073709551616) (hg : Gu W) : RwC 3 m T a b W := by
 have hb := Kit.below1 W (.cells #[.int .u8 3,.string T,.bool a,.bool b,.int .u64 (m : Int)] 29)
 have hx := heap_alloc_last W (.cells #[.int .u8 3,.string T,.bool a,.bool b,.int .u64 (m : Int)] 29)
 generalize hW1 : W.alloc (.cells #[.int .u8 3,.string T,.bool a,.bool b,.int .u64 (m : Int)] 29) = W1 at hx hb
 obtain ⟨c0,c1,c2,c3,c4⟩ := box_cells hx
 have HB := Lib.hid hb
 have HG := Lib.hid (hg.keep hb)
 have HW := Lib.hid hW1
 clear hx hb hW1 hg
 unfold RwC
 obtain ⟨V,hV,hV2⟩ := str_s (wordR ⟨3,T.data.toList,a,b,m⟩)
 rw [hV2]
 clear hV2
 have e0 : V = ⟨#[110,111,112,97,115,115]⟩ := RefRule.str_of hV
 subst e0
 clear hV
 go_enter Tryz.func62,Tryz.ntmps62
 go_upto_region 1 with fail
 rw [HW.out]
 go_wp2_with fail
 go_ret
 exact ⟨rfl,HB.out⟩
set_option maxHeartbeats 1000000 in
theorem rw_4 (m : Nat) (T : ByteArray) (a b : Bool) (W : World) (hz : T.size ≤ 1048576) (hm : m < 18446744073709551616) (hg : Gu W) : RwC 4 m T a b W := by
 have hb := Kit.below1 W (.cells #[.int .u8 4,.string T,.bool a,.bool b,.int .u64 (m : Int)] 29)
 have hx := heap_alloc_last W (.cells #[.int .u8 4,.string T,.bool a,.bool b,.int .u64 (m : Int)] 29)
 generalize hW1 : W.alloc (.cells #[.int .u8 4,.string T,.bool a,.bool b,.int .u64 (m : Int)] 29) = W1 at hx hb
 obtain ⟨c0,c1,c2,c3,c4⟩ := box_cells hx
 have HB := Lib.hid hb
 have HG := Lib.hid (hg.keep hb)
 have HW := Lib.hid hW1
 clear hx hb hW1 hg
 unfold RwC
 obtain ⟨V,hV,hV2⟩ := str_s (wordR ⟨4,T.data.toList,a,b,m⟩)
 rw [hV2]
 clear hV2
 have e0 : V = ⟨#[114,101,115,101,116,112,97,115,115]⟩ := RefRule.str_of hV
 subst e0
 clear hV
 go_enter Tryz.func62,Tryz.ntmps62
 go_upto_region 1 with fail
 rw [HW.out]
 go_wp2_with fail
 go_ret
 exact ⟨rfl,HB.out⟩
set_option maxHeartbeats 1000000 in
theorem rw_5 (m : Nat) (T : ByteArray) (a b : Bool) (W : World) (hz : T.size ≤ 1048576) (hm : m < 18446744073709551616) (hg : Gu W) : RwC 5 m T a b W := by
 have hb := Kit.below1 W (.cells #[.int .u8 5,.string T,.bool a,.bool b,.int .u64 (m : Int)] 29)
 have hx := heap_alloc_last W (.cells #[.int .u8 5,.string T,.bool a,.bool b,.int .u64 (m : Int)] 29)
 generalize hW1 : W.alloc (.cells #[.int .u8 5,.string T,.bool a,.bool b,.int .u64 (m : Int)] 29) = W1 at hx hb
 obtain ⟨c0,c1,c2,c3,c4⟩ := box_cells hx
 have HB := Lib.hid hb
 have HG := Lib.hid (hg.keep hb)
 have HW := Lib.hid hW1
 clear hx hb hW1 hg
 unfold RwC
 obtain ⟨V,hV,hV2⟩ := str_s (wordR ⟨5,T.data.toList,a,b,m⟩)
 rw [hV2]
 clear hV2
 have a0 := add_l ⟨#[62]⟩ T V (by omega) (by decide) hV
 clear hV
 go_enter Tryz.func62,Tryz.ntmps62
 go_upto_region 1 with fail
 rw [HW.out]
 go_wp2_with fail
 go_ret
 exact ⟨rfl,HB.out⟩
set_option maxHeartbeats 1000000 in
theorem rw_6 (m : Nat) (T : ByteArray) (a b : Bool) (W : World) (hz : T.size ≤ 1048576) (hm : m < 18446744073709551616) (hg : Gu W) : RwC 6 m T a b W := by
 have hb := Kit.below1 W (.cells #[.int .u8 6,.string T,.bool a,.bool b,.int .u64 (m : Int)] 29)
 have hx := heap_alloc_last W (.cells #[.int .u8 6,.string T,.bool a,.bool b,.int .u64 (m : Int)] 29)
 generalize hW1 : W.alloc (.cells #[.int .u8 6,.string T,.bool a,.bool b,.int .u64 (m : Int)] 29) = W1 at hx hb
 obtain ⟨c0,c1,c2,c3,c4⟩ := box_cells hx
 have HB := Lib.hid hb
 have HG := Lib.hid (hg.keep hb)
 have HW := Lib.hid hW1
 clear hx hb hW1 hg
 unfold RwC
 obtain ⟨V,hV,hV2⟩ := str_s (wordR ⟨6,T.data.toList,a,b,m⟩)
 rw [hV2]
 clear hV2
 have a0 := add_l ⟨#[35]⟩ T V (by omega) (by decide) hV
 clear hV
 go_enter Tryz.func62,Tryz.ntmps62
 go_upto_region 1 with fail
 rw [HW.out]
 go_wp2_with fail
 go_ret
 exact ⟨rfl,HB.out⟩
set_option maxHeartbeats 1000000 in
theorem rw_7 (m : Nat) (T : ByteArray) (a b : Bool) (W : World) (hz : T.size ≤ 1048576) (hm : m < 18446744073709551616) (hg : Gu W) : RwC 7 m T a b W := by
 have hb := Kit.below1 W (.cells #[.int .u8 7,.string T,.bool a,.bool b,.int .u64 (m : Int)] 29)
 have hx := heap_alloc_last W (.cells #[.int .u8 7,.string T,.bool a,.bool b,.int .u64 (m : Int)] 29)
 generalize hW1 : W.alloc (.cells #[.int .u8 7,.string T,.bool a,.bool b,.int .u64 (m : Int)] 29) = W1 at hx hb
 obtain ⟨c0,c1,c2,c3,c4⟩ := box_cells hx
 have HB := Lib.hid hb
 have HG := Lib.hid (hg.keep hb)
 have HW := Lib.hid hW1
 clear hx hb hW1 hg
 unfold RwC
 obtain ⟨V,hV,hV2⟩ := str_s (wordR ⟨7,T.data.toList,a,b,m⟩)
 rw [hV2]
 clear hV2
 have a0 := add_l ⟨#[33]⟩ T V (by omega) (by decide) hV
 clear hV
 go_enter Tryz.func62,Tryz.ntmps62
 go_upto_region 1 with fail
 rw [HW.out]
 go_wp2_with fail
 go_ret
 exact ⟨rfl,HB.out⟩
set_option maxHeartbeats 1000000 in
theorem rw_8 (m : Nat) (T : ByteArray) (a b : Bool) (W : World) (hz : T.size ≤ 1048576) (hm : m < 18446744073709551616) (hg : Gu W) : RwC 8 m T a b W := by
 have hb := Kit.below1 W (.cells #[.int .u8 8,.string T,.bool a,.bool b,.int .u64 (m : Int)] 29)
 have hx := heap_alloc_last W (.cells #[.int .u8 8,.string T,.bool a,.bool b,.int .u64 (m : Int)] 29)
 generalize hW1 : W.alloc (.cells #[.int .u8 8,.string T,.bool a,.bool b,.int .u64 (m : Int)] 29) = W1 at hx hb
 obtain ⟨c0,c1,c2,c3,c4⟩ := box_cells hx
 have HB := Lib.hid hb
 have HG := Lib.hid (hg.keep hb)
 have HW := Lib.hid hW1
 clear hx hb hW1 hg
 unfold RwC
 obtain ⟨V,hV,hV2⟩ := str_s (wordR ⟨8,T.data.toList,a,b,m⟩)
 rw [hV2]
 clear hV2
 have CM := Lib.hid (maskw_any m hm W1 HG.out)
 obtain ⟨X,hX,hX2⟩ := str_s (maskWd m)
 rw [hX2] at CM
 have hXl : X.size ≤ 64 := by
  have h1 := maskWd_len m
  have h2 : X.data.toList.length = X.size := by simp
  rw [hX] at h2
  omega
 have a0 := add_l ⟨#[43]⟩ X V (by omega) (by decide) (by rw [hV,hX]; rfl)
 clear hV hX hX2
 go_enter Tryz.func62,Tryz.ntmps62
 go_upto_region 1 with fail
 rw [HW.out]
 go_wp2_with fail
 with_reducible refine CM.out.mono ?_
 rintro e w2 ⟨rfl,hb2⟩
 have HB2 := Lib.hid (HB.out.trans (hb2.mono HB.out.size))
 clear hb2 CM
 go_wp2_with fail
 go_ret
 exact ⟨rfl,HB2.out⟩
set_option maxHeartbeats 1000000 in
theorem rw_9 (m : Nat) (T : ByteArray) (a b : Bool) (W : World) (hz : T.size ≤ 1048576) (hm : m < 18446744073709551616) (hg : Gu W) : RwC 9 m T a b W := by
 have hb := Kit.below1 W (.cells #[.int .u8 9,.string T,.bool a,.bool b,.int .u64 (m : Int)] 29)
 have hx := heap_alloc_last W (.cells #[.int .u8 9,.string T,.bool a,.bool b,.int .u64 (m : Int)] 29)
 generalize hW1 : W.alloc (.cells #[.int .u8 9,.string T,.bool a,.bool b,.int .u64 (m : Int)] 29) = W1 at hx hb
 obtain ⟨c0,c1,c2,c3,c4⟩ := box_cells hx
 have HB := Lib.hid hb
 have HG := Lib.hid (hg.keep hb)
 have HW := Lib.hid hW1
 clear hx hb hW1 hg
 unfold RwC
 obtain ⟨V,hV,hV2⟩ := str_s (wordR ⟨9,T.data.toList,a,b,m⟩)
 rw [hV2]
 clear hV2
 have CM := Lib.hid (maskw_any m hm W1 HG.out)
 obtain ⟨X,hX,hX2⟩ := str_s (maskWd m)
 rw [hX2] at CM
 have hXl : X.size ≤ 64 := by
  have h1 := maskWd_len m
  have h2 : X.data.toList.length = X.size := by simp
  rw [hX] at h2
  omega
 have a0 := add_l ⟨#[45]⟩ X V (by omega) (by decide) (by rw [hV,hX]; rfl)
 clear hV hX hX2
 go_enter Tryz.func62,Tryz.ntmps62
 go_upto_region 1 with fail
 rw [HW.out]
 go_wp2_with fail
 with_reducible refine CM.out.mono ?_
 rintro e w2 ⟨rfl,hb2⟩
 have HB2 := Lib.hid (HB.out.trans (hb2.mono HB.out.size))
 clear hb2 CM
 go_wp2_with fail
 go_ret
 exact ⟨rfl,HB2.out⟩
set_option maxHeartbeats 1000000 in
theorem rw_10 (m : Nat) (T : ByteArray) (a b : Bool) (W : World) (hz : T.size ≤ 1048576) (hm : m < 18446744073709551616) (hg : Gu W) : RwC 10 m T a b W := by
 have hb := Kit.below1 W (.cells #[.int .u8 10,.string T,.bool a,.bool b,.int .u64 (m : Int)] 29)
 have hx := heap_alloc_last W (.cells #[.int .u8 10,.string T,.bool a,.bool b,.int .u64 (m : Int)] 29)
 generalize hW1 : W.alloc (.cells #[.int .u8 10,.string T,.bool a,.bool b,.int .u64 (m : Int)] 29) = W1 at hx hb
 obtain ⟨c0,c1,c2,c3,c4⟩ := box_cells hx
 have HB := Lib.hid hb
 have HG := Lib.hid (hg.keep hb)
 have HW := Lib.hid hW1
 clear hx hb hW1 hg
 unfold RwC
 obtain ⟨V,hV,hV2⟩ := str_s (wordR ⟨10,T.data.toList,a,b,m⟩)
 rw [hV2]
 clear hV2
 have CK := Lib.hid (keyw_any T a b W1 hz)
 have hVk : (⟨(keysWd T.data.toList a b).toArray⟩ : ByteArray) = V := by
  rw [show keysWd T.data.toList a b = V.data.toList from hV.symm]
 rw [hVk] at CK
 have bg := fun W => build_gl T a b W
 clear hV hVk
 go_enter Tryz.func62,Tryz.ntmps62
 go_upto_region 1 with fail
 rw [HW.out]
 go_wp2_with fail
 with_reducible refine CK.out.mono ?_
 rintro e w2 ⟨rfl,hb2⟩
 have HB2 := Lib.hid (HB.out.trans (hb2.mono HB.out.size))
 clear hb2 CK
 go_wp2_with fail
 go_ret
 exact ⟨rfl,HB2.out⟩
set_option maxHeartbeats 1000000 in
theorem rw_11 (m : Nat) (T : ByteArray) (a b : Bool) (W : World) (hz : T.size ≤ 1048576) (hm : m < 18446744073709551616) (hg : Gu W) : RwC 11 m T a b W := by
 have hb := Kit.below1 W (.cells #[.int .u8 11,.string T,.bool a,.bool b,.int .u64 (m : Int)] 29)
 have hx := heap_alloc_last W (.cells #[.int .u8 11,.string T,.bool a,.bool b,.int .u64 (m : Int)] 29)
 generalize hW1 : W.alloc (.cells #[.int .u8 11,.string T,.bool a,.bool b,.int .u64 (m : Int)] 29) = W1 at hx hb
 obtain ⟨c0,c1,c2,c3,c4⟩ := box_cells hx
 have HB := Lib.hid hb
 have HG := Lib.hid (hg.keep hb)
 have HW := Lib.hid hW1
 clear hx hb hW1 hg
 unfold RwC
 obtain ⟨V,hV,hV2⟩ := str_s (wordR ⟨11,T.data.toList,a,b,m⟩)
 rw [hV2]
 clear hV2
 have e0 : V = ⟨#[114,101,115,101,116,107,101,121,115]⟩ := RefRule.str_of hV
 subst e0
 clear hV
 go_enter Tryz.func62,Tryz.ntmps62
 go_upto_region 1 with fail
 rw [HW.out]
 go_wp2_with fail
 go_ret
 exact ⟨rfl,HB.out⟩
set_option maxHeartbeats 1000000 in
theorem rw_12 (m : Nat) (T : ByteArray) (a b : Bool) (W : World) (hz : T.size ≤ 1048576) (hm : m < 18446744073709551616) (hg : Gu W) : RwC 12 m T a b W := by
 have hb := Kit.below1 W (.cells #[.int .u8 12,.string T,.bool a,.bool b,.int .u64 (m : Int)] 29)
 have hx := heap_alloc_last W (.cells #[.int .u8 12,.string T,.bool a,.bool b,.int .u64 (m : Int)] 29)
 generalize hW1 : W.alloc (.cells #[.int .u8 12,.string T,.bool a,.bool b,.int .u64 (m : Int)] 29) = W1 at hx hb
 obtain ⟨c0,c1,c2,c3,c4⟩ := box_cells hx
 have HB := Lib.hid hb
 have HG := Lib.hid (hg.keep hb)
 have HW := Lib.hid hW1
 clear hx hb hW1 hg
 unfold RwC
 obtain ⟨V,hV,hV2⟩ := str_s (wordR ⟨12,T.data.toList,a,b,m⟩)
 rw [hV2]
 clear hV2
 have a0 := add_l ⟨#[38]⟩ T V (by omega) (by decide) hV
 clear hV
 go_enter Tryz.func62,Tryz.ntmps62
 go_upto_region 1 with fail
 rw [HW.out]
 go_wp2_with fail
 go_ret
 exact ⟨rfl,HB.out⟩
set_option maxHeartbeats 1000000 in
theorem rw_13 (m : Nat) (T : ByteArray) (a b : Bool) (W : World) (hz : T.size ≤ 1048576) (hm : m < 18446744073709551616) (hg : Gu W) : RwC 13 m T a b W := by
 have hb := Kit.below1 W (.cells #[.int .u8 13,.string T,.bool a,.bool b,.int .u64 (m : Int)] 29)
 have hx := heap_alloc_last W (.cells #[.int .u8 13,.string T,.bool a,.bool b,.int .u64 (m : Int)] 29)
 generalize hW1 : W.alloc (.cells #[.int .u8 13,.string T,.bool a,.bool b,.int .u64 (m : Int)] 29) = W1 at hx hb
 obtain ⟨c0,c1,c2,c3,c4⟩ := box_cells hx
 have HB := Lib.hid hb
 have HG := Lib.hid (hg.keep hb)
 have HW := Lib.hid hW1
 clear hx hb hW1 hg
 unfold RwC
 obtain ⟨V,hV,hV2⟩ := str_s (wordR ⟨13,T.data.toList,a,b,m⟩)
 rw [hV2]
 clear hV2
 have e0 : V = ⟨#[114,101,115,101,116,99,104,97,110,110,101,108,115]⟩ := RefRule.str_of hV
 subst e0
 clear hV
 go_enter Tryz.func62,Tryz.ntmps62
 go_upto_region 1 with fail
 rw [HW.out]
 go_wp2_with fail
 go_ret
 exact ⟨rfl,HB.out⟩
set_option maxHeartbeats 1000000 in
theorem rw_14 (m : Nat) (T : ByteArray) (a b : Bool) (W : World) (hz : T.size ≤ 1048576) (hm : m < 18446744073709551616) (hg : Gu W) : RwC 14 m T a b W := by
 have hb := Kit.below1 W (.cells #[.int .u8 14,.string T,.bool a,.bool b,.int .u64 (m : Int)] 29)
 have hx := heap_alloc_last W (.cells #[.int .u8 14,.string T,.bool a,.bool b,.int .u64 (m : Int)] 29)
 generalize hW1 : W.alloc (.cells #[.int .u8 14,.string T,.bool a,.bool b,.int .u64 (m : Int)] 29) = W1 at hx hb
 obtain ⟨c0,c1,c2,c3,c4⟩ := box_cells hx
 have HB := Lib.hid hb
 have HG := Lib.hid (hg.keep hb)
 have HW := Lib.hid hW1
 clear hx hb hW1 hg
 unfold RwC
 obtain ⟨V,hV,hV2⟩ := str_s (wordR ⟨14,T.data.toList,a,b,m⟩)
 rw [hV2]
 clear hV2
 have e0 : V = ⟨#[114,101,115,101,116]⟩ := RefRule.str_of hV
 subst e0
 clear hV
 go_enter Tryz.func62,Tryz.ntmps62
 go_upto_region 1 with fail
 rw [HW.out]
 go_wp2_with fail
 go_ret
 exact ⟨rfl,HB.out⟩
set_option maxHeartbeats 1000000 in
theorem rw_x (m : Nat) (k : Nat) (hk : k = 0 ∨ 15 ≤ k) (T : ByteArray) (a b : Bool) (W : World) (hz : T.size ≤ 1048576) (hm : m < 18446744073709551616) (hg : Gu W) : RwC k m T a b W := by
 have hb := Kit.below1 W (.cells #[.int .u8 (k : Int),.string T,.bool a,.bool b,.int .u64 (m : Int)] 29)
 have hx := heap_alloc_last W (.cells #[.int .u8 (k : Int),.string T,.bool a,.bool b,.int .u64 (m : Int)] 29)
 generalize hW1 : W.alloc (.cells #[.int .u8 (k : Int),.string T,.bool a,.bool b,.int .u64 (m : Int)] 29) = W1 at hx hb
 obtain ⟨c0,c1,c2,c3,c4⟩ := box_cells hx
 have HB := Lib.hid hb
 have HG := Lib.hid (hg.keep hb)
 have HW := Lib.hid hW1
 clear hx hb hW1 hg
 unfold RwC
 obtain ⟨V,hV,hV2⟩ := str_s (wordR ⟨k,T.data.toList,a,b,m⟩)
 rw [hV2]
 clear hV2
 have n1 : ((k : Int) == 1) = false := by rw [beq_eq_false_iff_ne]; omega
 have n2 : ((k : Int) == 2) = false := by rw [beq_eq_false_iff_ne]; omega
 have n3 : ((k : Int) == 3) = false := by rw [beq_eq_false_iff_ne]; omega
 have n4 : ((k : Int) == 4) = false := by rw [beq_eq_false_iff_ne]; omega
 have n5 : ((k : Int) == 5) = false := by rw [beq_eq_false_iff_ne]; omega
 have n6 : ((k : Int) == 6) = false := by rw [beq_eq_false_iff_ne]; omega
 have n7 : ((k : Int) == 7) = false := by rw [beq_eq_false_iff_ne]; omega
 have n8 : ((k : Int) == 8) = false := by rw [beq_eq_false_iff_ne]; omega
 have n9 : ((k : Int) == 9) = false := by rw [beq_eq_false_iff_ne]; omega
 have n10 : ((k : Int) == 10) = false := by rw [beq_eq_false_iff_ne]; omega
 have n11 : ((k : Int) == 11) = false := by rw [beq_eq_false_iff_ne]; omega
 have n12 : ((k : Int) == 12) = false := by rw [beq_eq_false_iff_ne]; omega
 have n13 : ((k : Int) == 13) = false := by rw [beq_eq_false_iff_ne]; omega
 have n14 : ((k : Int) == 14) = false := by rw [beq_eq_false_iff_ne]; omega
 have e0 : V = ⟨#[]⟩ := RefRule.str_of (by
  rw [hV]
  rcases hk with rfl | hk
  · rfl
  · obtain ⟨j,rfl⟩ : ∃ j,k = j + 15 := ⟨k - 15,by omega⟩
    rfl)
 subst e0
 clear hV hk
 go_enter Tryz.func62,Tryz.ntmps62
 go_upto_region 1 with fail
 rw [HW.out]
 go_wp2_with fail
 go_ret
 exact ⟨rfl,HB.out⟩
theorem rulew_any (k m : Nat) (T : ByteArray) (a b : Bool) (W : World) (hz : T.size ≤ 1048576) (hm : m < 18446744073709551616) (hg : Gu W) : RwC k m T a b W := by
 match k with
 | 0 => exact rw_x m 0 (Or.inl rfl) T a b W hz hm hg
 | 1 => exact rw_1 m T a b W hz hm hg
 | 2 => exact rw_2 m T a b W hz hm hg
 | 3 => exact rw_3 m T a b W hz hm hg
 | 4 => exact rw_4 m T a b W hz hm hg
 | 5 => exact rw_5 m T a b W hz hm hg
 | 6 => exact rw_6 m T a b W hz hm hg
 | 7 => exact rw_7 m T a b W hz hm hg
 | 8 => exact rw_8 m T a b W hz hm hg
 | 9 => exact rw_9 m T a b W hz hm hg
 | 10 => exact rw_10 m T a b W hz hm hg
 | 11 => exact rw_11 m T a b W hz hm hg
 | 12 => exact rw_12 m T a b W hz hm hg
 | 13 => exact rw_13 m T a b W hz hm hg
 | 14 => exact rw_14 m T a b W hz hm hg
 | k + 15 => exact rw_x m (k + 15) (Or.inr (by omega)) T a b W hz hm hg
theorem keysWd_len (s : List UInt8) (r w : Bool) : (keysWd s r w).length ≤ s.length + 3 := by
 unfold keysWd
 split <;> split <;> simp
theorem wordR_len (r : RV) : (wordR r).length ≤ r.s.length + 24 := by
 obtain ⟨k,s,a,b,m⟩ := r
 have h1 := maskWd_len m
 have h2 := keysWd_len s a b
 match k with
 | 0 | 1 | 2 | 3 | 4 | 5 | 6 | 7 | 11 | 12 | 13 | 14 => simp [wordR]; try omega
 | 8 | 9 => simp [wordR]; omega
 | 10 => simp only [wordR]; omega
 | k + 15 => simp [wordR]
theorem wordR_rec (r : RV) (c : UInt8) (l : List UInt8) (h : wordR r = c :: l) (hc : c = 35 ∨ c = 33) : l.length ≤ r.s.length := by
 obtain ⟨k,s,a,b,m⟩ := r
 have bad : ∀ (d : UInt8) (x : List UInt8),d ≠ 35 → d ≠ 33 → d :: x = c :: l → l.length ≤ s.length := fun d x h1 h2 e => by
  have := (List.cons.inj e).1
  rcases hc with rfl | rfl
  · exact absurd this h1
  · exact absurd this h2
 match k,h with
 | 0,h => cases h
 | 1,h => exact bad _ _ (by decide) (by decide) h
 | 2,h => exact bad _ _ (by decide) (by decide) h
 | 3,h => exact bad _ _ (by decide) (by decide) h
 | 4,h => exact bad _ _ (by decide) (by decide) h
 | 5,h => exact bad _ _ (by decide) (by decide) h
 | 6,h => rw [(List.cons.inj h).2.symm]; exact Nat.le_refl _
 | 7,h => rw [(List.cons.inj h).2.symm]; exact Nat.le_refl _
 | 8,h => exact bad _ _ (by decide) (by decide) h
 | 9,h => exact bad _ _ (by decide) (by decide) h
 | 10,h =>
   cases a <;> cases b
   · cases h
   · exact bad _ _ (by decide) (by decide) h
   · exact bad _ _ (by decide) (by decide) h
   · exact bad _ _ (by decide) (by decide) h
 | 11,h => exact bad _ _ (by decide) (by decide) h
 | 12,h => exact bad _ _ (by decide) (by decide) h
 | 13,h => exact bad _ _ (by decide) (by decide) h
 | 14,h => exact bad _ _ (by decide) (by decide) h
 | k + 15,h => cases h
set_option maxHeartbeats 2000000 in
theorem isRule_any (k m : Nat) (T : ByteArray) (a b : Bool) (w : World) (hz : T.size ≤ 1048576) (hm : m < 18446744073709551616) (hg : Gu w) :
  Calls Tryz.prog 22 #[.agg #[.int .u8 (k : Int),.string T,.bool a,.bool b,.int .u64 (m : Int)]] w fun e w' => e = .returned (.bool (rightR ⟨k,T.data.toList,a,b,m⟩)) ∧ Below w.heap.size w w' := by
 have hb := Kit.below1 w (.cells #[.int .u8 (k : Int),.string T,.bool a,.bool b,.int .u64 (m : Int)] 29)
 have hx := heap_alloc_last w (.cells #[.int .u8 (k : Int),.string T,.bool a,.bool b,.int .u64 (m : Int)] 29)
 generalize hW1 : w.alloc (.cells #[.int .u8 (k : Int),.string T,.bool a,.bool b,.int .u64 (m : Int)] 29) = W1 at hx hb
 have HX := Lib.hid (fun W (hW : Below W1.heap.size W1 W) => (show W.heap[w.heap.size]? = some (.cells #[.int .u8 (k : Int),.string T,.bool a,.bool b,.int .u64 (m : Int)] 29 (0,0)) by rw [hW.block _ (Array.getElem?_eq_some_iff.1 hx).1]; exact hx))
 obtain ⟨c0,c1,c2,c3,c4⟩ := box_cells hx
 have HB := Lib.hid hb
 have HG := Lib.hid (hg.keep hb)
 have HW := Lib.hid hW1
 obtain ⟨R,hR⟩ : ∃ R : RV,R = ⟨k,T.data.toList,a,b,m⟩ := ⟨_,rfl⟩
 rw [← hR]
 have CW := Lib.hid (rulew_any k m T a b W1 hz hm HG.out)
 unfold RwC at CW
 rw [← hR] at CW
 obtain ⟨V,hV,hV2⟩ := str_s (wordR R)
 rw [hV2] at CW
 have hTl : T.data.toList.length = T.size := by simp
 have hVl : V.data.toList.length = V.size := by simp
 have hRs : R.s = T.data.toList := by rw [hR]
 have hRa : R.agg = .agg #[.int .u8 (k : Int),.string T,.bool a,.bool b,.int .u64 (m : Int)] := by rw [hR]; rfl
 have CP := Lib.hid (fun W (hW : Gu W) => RuleM.rule_wide V W (by have := wordR_len R; rw [hV,hRs] at *; omega) (fun c r h hc => by
  rw [hV] at h
  have := wordR_rec R c r h hc
  rw [hRs] at this
  omega) hW.gw)
 have hI := is_rule R (by rw [hR]; exact hm)
 rw [← hI,← hV]
 obtain ⟨vk,vs,va,vb,vm,ok,hA⟩ := RuleM.ans_told (ruleD V.data.toList)
 have h1 : Ending.returned (.tuple #[.agg #[.int .u8 vk,.string vs,.bool va,.bool vb,.int .u64 vm],.bool ok]) = .returned (.tuple #[((ruleD V.data.toList).getD noR).agg,.bool (ruleD V.data.toList).isSome]) := (hA _).2 rfl
 have h2 := congrArg (fun e => match e with | Ending.returned (.tuple x) => (x[0]?,x[1]?) | _ => (none,none)) h1
 have h3 := Prod.mk.inj h2
 have h4 : Value.agg #[.int .u8 vk,.string vs,.bool va,.bool vb,.int .u64 vm] = ((ruleD V.data.toList).getD noR).agg := Option.some.inj h3.1
 have h5 : ok = (ruleD V.data.toList).isSome := by
  have := Option.some.inj h3.2
  injection this
 have hE : ok = true → ∀ W,(binOp .eql 29 (.agg #[.int .u8 vk,.string vs,.bool va,.bool vb,.int .u64 vm]) (.agg #[.int .u8 (k : Int),.string T,.bool a,.bool b,.int .u64 (m : Int)])).run Tryz.prog W = .ok (.bool (decide (ruleD V.data.toList = some R))) W := by
  intro hok W
  rw [h4,← hRa,eq_rule]
  rw [hok] at h5
  cases ho : ruleD V.data.toList with
  | none => rw [ho] at h5; cases h5
  | some v => simp
 have hN : ok = false → decide (ruleD V.data.toList = some R) = false := by
  intro hok
  rw [hok] at h5
  cases ho : ruleD V.data.toList with
  | none => simp
  | some v => rw [ho] at h5; cases h5
 have HA := Lib.hid hA
 have HCs := Lib.hid (RefRule.rule_cs vk vs va vb vm)
 have HOn := Lib.hid (RefRule.rule_one vk vs va vb vm)
 generalize ruleD V.data.toList = o at CP HA hE hN ⊢
 clear h1 h2 h3 h4 h5 hA hI hRa hRs hVl hTl hV hV2 hR hx hb hg hW1
 generalize decide (o = some R) = B at hE hN ⊢
 cases ok with
 | true =>
   have hE1 := hE rfl
   have HE := Lib.hid hE1
   clear hE hE1 hN
   go_enter Tryz.func22,Tryz.ntmps22
   go_upto_region 1 with fail
   rw [HW.out]
   go_wp2_with fail
   with_reducible refine CW.out.mono ?_
   rintro e w2 ⟨rfl,hb2⟩
   have HB2 := Lib.hid hb2
   clear hb2 CW c0 c1 c2 c3 c4
   go_wp2_with fail
   refine (CP.out _ (HG.out.keep HB2.out)).mono ?_
   rintro e w3 ⟨he3,hb3⟩
   obtain rfl := (HA.out _).1 he3
   have HB3 := Lib.hid (HB2.out.trans (hb3.mono HB2.out.size))
   clear he3 hb3 CP HA HB2
   have HB4 := Lib.hid (HB3.out.alloc HB3.out.size (.cells #[.int .u8 vk,.string vs,.bool va,.bool vb,.int .u64 vm] 29))
   obtain ⟨c0,c1,c2,c3,c4⟩ := box_cells (HX.out _ HB3.out)
   go_upto_region 2 with fail
   obtain ⟨c0,c1,c2,c3,c4⟩ := box_cells (HX.out _ HB4.out)
   obtain ⟨d0,d1,d2,d3,d4⟩ := box_cells (heap_alloc_last w3 (.cells #[.int .u8 vk,.string vs,.bool va,.bool vb,.int .u64 vm] 29))
   have hE1 := HE.out
   go_wp2_with fail
   go_ret
   exact ⟨rfl,HB.out.trans (HB4.out.mono HB.out.size)⟩
 | false =>
   have hB := hN rfl
   subst hB
   clear hE hN
   go_enter Tryz.func22,Tryz.ntmps22
   go_upto_region 1 with fail
   rw [HW.out]
   go_wp2_with fail
   with_reducible refine CW.out.mono ?_
   rintro e w2 ⟨rfl,hb2⟩
   have HB2 := Lib.hid hb2
   clear hb2 CW c0 c1 c2 c3 c4
   go_wp2_with fail
   refine (CP.out _ (HG.out.keep HB2.out)).mono ?_
   rintro e w3 ⟨he3,hb3⟩
   obtain rfl := (HA.out _).1 he3
   have HB3 := Lib.hid (HB2.out.trans (hb3.mono HB2.out.size))
   clear he3 hb3 CP HA HB2
   have HB4 := Lib.hid (HB3.out.alloc HB3.out.size (.cells #[.int .u8 vk,.string vs,.bool va,.bool vb,.int .u64 vm] 29))
   obtain ⟨c0,c1,c2,c3,c4⟩ := box_cells (HX.out _ HB3.out)
   go_wp2_with fail
   go_ret
   exact ⟨rfl,HB.out.trans (HB4.out.mono HB.out.size)⟩
end Go.Proofs.YtpoinibckmbfcaaGreatDoor.UserM
