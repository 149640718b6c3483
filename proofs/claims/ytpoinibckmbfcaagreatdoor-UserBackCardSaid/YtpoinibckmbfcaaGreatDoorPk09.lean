/-
  Packed by program.
-/
import Derived.Test.YtpoinibckmbfcaaGreatDoorPk08
import Derived.Test.YtpoinibckmbfcaaGreatDoorPk08
namespace Go.Proofs.YtpoinibckmbfcaaGreatDoor.RefTab
open Go.RowKit Kit TableMath Low StrT
open Go.Sort (grow)
set_option linter.unusedVariables false
set_option maxRecDepth 100000
theorem beq_str (S T : ByteArray) (a b : List UInt8) (hS : S.data.toList = a) (hT : T.data.toList = b) : (S.toList == T.toList) = decide (a = b) := by
 rw [ByteArray.toList_eq,ByteArray.toList_eq,hS,hT,Bool.eq_iff_iff,beq_iff_eq,decide_eq_true_eq]
theorem fits_out {id words : Int} (h : atB id = false) : fitsB id words = false := by unfold fitsB; rw [h]; rfl
theorem fits_low {id words r : Int} (h : atB id = true) (hr : r = (atV id).ar) (h0 : r < 0) : fitsB id words = decide (-r ≤ words) := by
 unfold fitsB
 rw [h,← hr,if_pos h0]
 rfl
theorem fits_same {id words r : Int} (h : atB id = true) (hr : r = (atV id).ar) (h0 : ¬ r < 0) : fitsB id words = decide (words = r) := by
 unfold fitsB
 rw [h,← hr,if_neg h0]
 rfl
theorem ar_small (id : Int) : -3 ≤ (atV id).ar ∧ (atV id).ar ≤ 4 := by
 have hall : ∀ c ∈ cmds,-3 ≤ c.ar ∧ c.ar ≤ 4 := by decide
 unfold atV
 split
 · rename_i h
   rw [cmdAt_get id.toNat (by omega)]
   exact hall _ (List.getElem_mem _)
 · exact ⟨by decide,by decide⟩
end Go.Proofs.YtpoinibckmbfcaaGreatDoor.RefTab
namespace Go.Proofs.YtpoinibckmbfcaaGreatDoor.RefTab
open Go.RowKit Kit TableMath Low StrT
set_option linter.unusedVariables false
set_option maxRecDepth 100000
theorem cats_ss (w : World) : Ss (w.alloc (.cells (sv cats).toArray 9)) (some ⟨w.heap.size,0,none⟩) cats := fun _ => ⟨w.heap.size,0,rfl,by simp,fun j hj => by
 rw [Nat.zero_add,cell_of_row _ _ _ _ 9 _ (heap_alloc_last w _)]
 simpa using sv_at cats j hj⟩
set_option maxHeartbeats 1000000 in
theorem cats_any (w : World) : Calls Tryz.prog 87 #[] w fun e w' => ∃ b,e = .returned (.slice (some ⟨b,0,none⟩) 12 12) ∧ Ss w' (some ⟨b,0,none⟩) cats ∧ w.heap.size ≤ b ∧ Below w.heap.size w w' := by
 have HS := Lib.hid (cats_ss w)
 go_enter Tryz.func87,Tryz.ntmps87
 go_wp2_with fail
 go_ret
 exact ⟨_,rfl,HS.out,Nat.le_refl _,Kit.below1 _ _⟩
end Go.Proofs.YtpoinibckmbfcaaGreatDoor.RefTab
namespace Go.Proofs.YtpoinibckmbfcaaGreatDoor.RefTab
open Go.RowKit Kit TableMath Low StrT
set_option linter.unusedVariables false
set_option maxRecDepth 100000
theorem bit_at (g k : Nat) : (((g : Int) / 2 ^ k).tmod 2 == 1) = decide (g >>> k % 2 = 1) := by
 have e : (g : Int) / 2 ^ k = ((g / 2 ^ k : Nat) : Int) := by rw [Int.natCast_ediv,Int.natCast_pow]; rfl
 rw [e,Int.tmod_eq_emod_of_nonneg (Int.natCast_nonneg _),Nat.shiftRight_eq_div_pow,Bool.eq_iff_iff,beq_iff_eq,decide_eq_true_eq]
 omega
theorem shl_sum (M j : Nat) (hj : j < 56) (hM : M < 2 ^ j) : IntKind.u64.wrap ((M : Int) + IntKind.u64.wrap (2 ^ j)) = ((M + 2 ^ j : Nat) : Int) := by
 have h1 : 2 ^ j ≤ 2 ^ 55 := Nat.pow_le_pow_right (by decide) (by omega)
 have e : (2 : Int) ^ j = ((2 ^ j : Nat) : Int) := by rw [Int.natCast_pow]; rfl
 rw [e]
 obtain ⟨P,hP⟩ : ∃ P,P = 2 ^ j := ⟨_,rfl⟩
 rw [← hP] at h1 hM ⊢
 have e55 : (2 : Nat) ^ 55 = 36028797018963968 := by decide
 rw [e55] at h1
 rw [IntKind.wrap_u64,IntKind.wrap_u64]
 omega
set_option maxHeartbeats 2000000 in
theorem cat_any (s : ByteArray) (w : World) :
  Calls Tryz.prog 44 #[.string s] w fun e w' => e = .returned (.tuple #[.int .u64 (catV s.data.toList : Int),.bool (catB s.data.toList)]) ∧ Below w.heap.size w w' := by
 have CA := Lib.hid (all_any w)
 have CC := Lib.hid (fun W => cats_any W)
 obtain ⟨l,hl⟩ : ∃ l,l = s.data.toList := ⟨_,rfl⟩
 have HS := Lib.hid hl.symm
 rw [← hl]
 have HLe := Lib.hid (catK_le l)
 clear hl
 go_enter Tryz.func44,Tryz.ntmps44
 go_wp2_with fail
 refine CA.out.mono ?_
 rintro e w1 ⟨b,c,rfl,hTab,hc1,hc2,hb1⟩
 have HTab := Lib.hid hTab
 have HB1 := Lib.hid hb1
 clear hTab hb1 CA
 go_wp2_with fail
 refine (CC.out w1).mono ?_
 rintro e w2 ⟨b2,rfl,hS2,hge,hb2⟩
 have HTab2 := Lib.hid (HTab.out.keep hb2)
 have HSs := Lib.hid hS2
 have HB2 := Lib.hid (HB1.out.trans (hb2.mono HB1.out.size))
 clear hS2 hb2 CC HTab HB1 hge
 go_wp2_with fail
 go_loopw [6] (fun i wr => ∃ k : Nat,k ≤ 13 ∧ i = .int .i64 k ∧ Hid (k ≤ catK l) ∧ wr = w2) (fun i _ => 13 - (intOf i).toNat)
 case atStart => exact ⟨0,by omega,rfl,Lib.hid (Nat.zero_le _),rfl⟩
 case round =>
  obtain ⟨k,hk,rfl,HK,rfl⟩ := hrel
  by_cases hlt : k < 13
  · have d1 : decide ((k : Int) ≤ 12) = true := decide_eq_true (by omega)
    have hn := names_len
    by_cases hne : names[k]'(by rw [names_len]; exact hlt) = s.data.toList
    · have HF := Lib.hid (catV_at hlt (catK_at hlt HK.out (by rw [HS.out] at hne; exact hne)))
      by_cases hk12 : k < 12
      · have d2 : decide ((k : Int) < 12) = true := decide_eq_true (by omega)
        obtain ⟨b',off,e1,hbl,hc⟩ := HSs.out (by decide)
        injection e1 with e1
        injection e1 with e2 e3 e4
        subst e2 e3
        have hu := hc k (by rw [cats_len]; exact hk12)
        rw [Nat.zero_add] at hu
        obtain ⟨S,hS⟩ : ∃ S : ByteArray,S = ⟨(cats[k]'(by rw [cats_len]; exact hk12)).toArray⟩ := ⟨_,rfl⟩
        rw [← hS] at hu
        have hE : (S.toList != s.toList) = false := by
         rw [bne,beq_str S s _ _ (by rw [hS]) rfl]
         have h4 : (cats[k]'(by rw [cats_len]; exact hk12)) = s.data.toList := by
          rw [← hne]
          exact (List.getElem_append_left (bs := [allN]) (by rw [cats_len]; exact hk12)).symm
         rw [decide_eq_true h4]
         rfl
        have hE2 : (S.toList == s.toList) = true := by simpa using hE
        have t12 : ((k : Int) == 12) = false := by rw [beq_eq_false_iff_ne]; omega
        clear hS hc hne
        go_wp2_with fail
        go_loopw [7,8] (fun m i wx => ∃ j : Nat,j ≤ 56 ∧ i = .int .i64 j ∧ m = .int .u64 (maskK k j : Int) ∧ wx = wr) (fun _ i _ => 56 - (intOf i).toNat)
        case atStart => exact ⟨0,by omega,rfl,rfl,rfl⟩
        case round =>
         obtain ⟨j,hj,rfl,rfl,rfl⟩ := hrel
         by_cases hj56 : j < 56
         · have d3 : decide ((j : Int) < 56) = true := decide_eq_true (by omega)
           have hct := HTab2.out.ct j hj56
           have hsm := ct_small j hj56
           have hm := maskK_lt k j
           have HY := Lib.hid (fun h => maskK_yes k j h)
           have HNo := Lib.hid (fun h => maskK_no k j h)
           have hbit := bit_at (cmdAt j).ct k
           obtain ⟨g,hg⟩ : ∃ g,g = (cmdAt j).ct := ⟨_,rfl⟩
           rw [← hg] at hct hsm hbit HY HNo
           obtain ⟨M,hM⟩ : ∃ M,M = maskK k j := ⟨_,rfl⟩
           rw [← hM] at hm HY HNo ⊢
           clear hg hM
           by_cases hy : g >>> k % 2 = 1
           · have hbt : (((g : Int) / 2 ^ k).tmod 2 == 1) = true := by rw [hbit]; exact decide_eq_true hy
             have HE := Lib.hid (HY.out (Or.inr hy))
             clear hbit hy HY HNo
             go_wp2_with fail
             go_roundw
             case rel => exact ⟨j + 1,by omega,by go_num,by rw [HE.out]; exact congrArg (Value.int .u64) (shl_sum M j hj56 hm),trivial⟩
             case measure => simp [intOf]; omega
           · have hbt : (((g : Int) / 2 ^ k).tmod 2 == 1) = false := by rw [hbit]; exact decide_eq_false hy
             have HE := Lib.hid (HNo.out (by rintro (h | h); omega; exact hy h))
             clear hbit hy HY HNo
             go_wp2_with fail
             go_roundw
             case rel => exact ⟨j + 1,by omega,by go_num,by rw [HE.out],trivial⟩
             case measure => simp [intOf]; omega
         · have d3 : decide ((j : Int) < 56) = false := decide_eq_false (by omega)
           obtain rfl : j = 56 := by omega
           go_wp2_with fail
           go_ret2
           exact ⟨by rw [HF.out.1,HF.out.2]; rfl,HB2.out⟩
      · have d2 : decide ((k : Int) < 12) = false := decide_eq_false (by omega)
        have e12 : k = 12 := by omega
        have t12 : ((k : Int) == 12) = true := by rw [e12]; rfl
        have hall : s.data.toList = allN := by
         rw [← hne]
         subst e12
         rfl
        have hA : (s.toList == [97,108,108]) = true := by rw [ByteArray.toList_eq,hall]; rfl
        have hA2 : (s.toList == (⟨#[97,108,108]⟩ : ByteArray).toList) = true := by rw [ByteArray.toList_eq,ByteArray.toList_eq,hall]; rfl
        have HK12 := Lib.hid e12
        clear hne hall e12
        go_wp2_with fail
        go_loopw [7,8] (fun m i wx => ∃ j : Nat,j ≤ 56 ∧ i = .int .i64 j ∧ m = .int .u64 (maskK k j : Int) ∧ wx = wr) (fun _ i _ => 56 - (intOf i).toNat)
        case atStart => exact ⟨0,by omega,rfl,rfl,rfl⟩
        case round =>
         obtain ⟨j,hj,rfl,rfl,rfl⟩ := hrel
         by_cases hj56 : j < 56
         · have d3 : decide ((j : Int) < 56) = true := decide_eq_true (by omega)
           have hm := maskK_lt k j
           have HE := Lib.hid (maskK_yes k j (Or.inl HK12.out))
           obtain ⟨M,hM⟩ : ∃ M,M = maskK k j := ⟨_,rfl⟩
           rw [← hM] at hm HE ⊢
           clear hM
           go_wp2_with fail
           go_roundw
           case rel => exact ⟨j + 1,by omega,by go_num,by rw [HE.out]; exact congrArg (Value.int .u64) (shl_sum M j hj56 hm),trivial⟩
           case measure => simp [intOf]; omega
         · have d3 : decide ((j : Int) < 56) = false := decide_eq_false (by omega)
           obtain rfl : j = 56 := by omega
           go_wp2_with fail
           go_ret2
           exact ⟨by rw [HF.out.1,HF.out.2]; rfl,HB2.out⟩
    · have HK2 := Lib.hid (catK_next hlt HK.out (by rw [HS.out] at hne; exact hne))
      by_cases hk12 : k < 12
      · have d2 : decide ((k : Int) < 12) = true := decide_eq_true (by omega)
        obtain ⟨b',off,e1,hbl,hc⟩ := HSs.out (by decide)
        injection e1 with e1
        injection e1 with e2 e3 e4
        subst e2 e3
        have hu := hc k (by rw [cats_len]; exact hk12)
        rw [Nat.zero_add] at hu
        obtain ⟨S,hS⟩ : ∃ S : ByteArray,S = ⟨(cats[k]'(by rw [cats_len]; exact hk12)).toArray⟩ := ⟨_,rfl⟩
        rw [← hS] at hu
        have hE2 : (S.toList == s.toList) = false := by
         rw [beq_str S s _ _ (by rw [hS]) rfl]
         refine decide_eq_false fun h4 => hne ?_
         rw [← h4]
         exact List.getElem_append_left (bs := [allN]) (by rw [cats_len]; exact hk12)
        have hE : (S.toList != s.toList) = true := by rw [bne,hE2]; rfl
        clear hS hc hne
        go_wp2_with fail
        go_roundw
        case rel => exact ⟨k + 1,by omega,by go_num,HK2,trivial⟩
        case measure => simp [intOf]; omega
      · have d2 : decide ((k : Int) < 12) = false := decide_eq_false (by omega)
        have e12 : k = 12 := by omega
        have t12 : ((k : Int) == 12) = true := by rw [e12]; rfl
        have hall : s.data.toList ≠ allN := fun h => hne (by
         rw [h]
         subst e12
         rfl)
        have hA : (s.toList == [97,108,108]) = false := by
         rw [ByteArray.toList_eq,beq_eq_false_iff_ne]
         exact hall
        have hA2 : (s.toList == (⟨#[97,108,108]⟩ : ByteArray).toList) = false := by
         rw [ByteArray.toList_eq,ByteArray.toList_eq,beq_eq_false_iff_ne]
         exact hall
        clear hne hall e12
        go_wp2_with fail
        go_roundw
        case rel => exact ⟨k + 1,by omega,by go_num,HK2,trivial⟩
        case measure => simp [intOf]; omega
  · have d1 : decide ((k : Int) ≤ 12) = false := decide_eq_false (by omega)
    have HF := Lib.hid (catV_none (s := l) (by have := HK.out; omega))
    go_wp2_with fail
    go_ret2
    exact ⟨by rw [HF.out.1,HF.out.2]; rfl,HB2.out⟩
end Go.Proofs.YtpoinibckmbfcaaGreatDoor.RefTab
namespace Go.Proofs.YtpoinibckmbfcaaGreatDoor.RefUser
open Go.RowKit Kit StrT RowG RuleT UserT UserR TableMath Low ValT
open Go.Sort (grow)
set_option linter.unusedVariables false
set_option maxRecDepth 100000
def AnsRow {α : Type} (E : Enc α) (L : List α) (w : World) (e : Ending) (w' : World) : Prop := ∃ q c,e = .returned (.slice q L.length c) ∧ RowIn E w' q L.length c L ∧ (∀ a,q = some a → w.heap.size ≤ a.block) ∧ Below w.heap.size w w'
theorem ans_row {α : Type} {E : Enc α} {base : Nat} {w w' : World} {v : Value} {L : List α} (h : OwnR E base w' v L) (hl : L.length ≤ 1048576) (hb : Below w.heap.size w w') (hg : w.heap.size ≤ base := by exact Nat.le_refl _) : AnsRow E L w (.returned v) w' := by
 obtain ⟨q,c,rfl,hr,hf⟩ := row_ans h hl
 exact ⟨q,c,rfl,hr,fun a e => Nat.le_trans hg (hf a e),hb⟩
set_option maxHeartbeats 1000000 in
theorem more_any (q : Option Addr) (L : List (List UInt8)) (n c : Nat) (T : ByteArray) (t : List UInt8) (w : World) (h : RowIn strE w q n c L) (hT : T.data.toList = t) (hz : n ≤ 1000000) :
  Calls Tryz.prog 27 #[.slice q n c,.string T] w fun e w' => AnsRow strE (moreL L t) w e w' := by
 have HR := Lib.hid h
 have HN := Lib.hid h.l
 have HO0 := Lib.hid (ownR_new strE w.heap.size w w.heap.size rfl (Nat.le_refl _))
 have HB0 := Lib.hid ((Below.refl w.heap.size w).alloc (Nat.le_refl _) (.cells #[] strE.ty))
 have HR1 := Lib.hid (h.keep HB0.out)
 have CI := Lib.hid (fun W (hw : Below w.heap.size w W) => StrS.in_any q L n c T t W h.l (rs_ss.1 (h.r.keep hw)) hT (by omega))
 have HTd := Lib.hid hT
 clear h hT
 obtain ⟨B,hB⟩ : ∃ B,B = decide (t ∈ L) := ⟨_,rfl⟩
 rw [← hB] at CI
 cases B with
 | true =>
   have HM := Lib.hid (show moreL L t = L from if_pos (of_decide_eq_true hB.symm))
   clear hB
   go_enter Tryz.func27,Tryz.ntmps27
   go_wp2_with (at_builtin; refine wpList_append_rs strE (w0 := w) rfl (.tmp 6) (.tmp 7) rfl _ _ rfl HO0.out HB0.out q L n c rfl HN.out HR1.out.r HR1.out.e (by simp; omega) L rfl ?_; intro v' w5 hown1 hb5)
   have HA := Lib.hid (fun W (hw : Below w5.heap.size w5 W) => ans_row (w := w) (OwnR.keep hown1 hw) (by rw [HN.out]; omega) (hb5.trans (hw.mono hb5.size)))
   refine (CI.out _ hb5).mono ?_
   rintro e w6 ⟨rfl,rfl⟩
   go_wp2_with fail
   go_ret
   rw [HM.out]
   exact HA.out _ (Below.refl _ _)
 | false =>
   have HM := Lib.hid (show moreL L t = L ++ [t] from if_neg (of_decide_eq_false hB.symm))
   clear hB
   have HC := Lib.hid (fun (W : World) => rec_new strE W W.heap.size t #[.string T] (by rw [← HTd.out]; rfl) rfl)
   go_enter Tryz.func27,Tryz.ntmps27
   go_wp2_with (at_builtin; refine wpList_append_rs strE (w0 := w) rfl (.tmp 6) (.tmp 7) rfl _ _ rfl HO0.out HB0.out q L n c rfl HN.out HR1.out.r HR1.out.e (by simp; omega) L rfl ?_; intro v' w5 hown1 hb5)
   have HO1 := Lib.hid (OwnR.keep hown1 (show Below w5.heap.size w5 (w5.alloc (.cells #[.string T] strE.ty)) from (Below.refl _ _).alloc (Nat.le_refl _) _))
   have HBa := Lib.hid (hb5.alloc hb5.size (.cells #[.string T] strE.ty))
   refine (CI.out _ hb5).mono ?_
   rintro e w6 ⟨rfl,rfl⟩
   clear hown1 hb5 HO0 HB0 HR1 CI
   go_wp2_with (at_builtin; refine wpList_append_r strE (w0 := w) rfl (.tmp 13) (.tmp 15) rfl _ _ rfl HO1.out HBa.out w6.heap.size t 1 rfl (HC.out w6) (by rw [HN.out]; omega) ?_; intro v'' w7 hown2 hb7)
   go_ret
   rw [HM.out]
   exact ans_row hown2 (by simp [HN.out]; omega) hb7
theorem keys_set : ∀ (L : List KG) (k : Nat) (hk : k < L.length) (t : List UInt8) (a b : Bool),(∀ g ∈ L.take k,g.pat ≠ t) → L[k].pat = t → keysL L t a b = L.set k ⟨L[k].pat,L[k].r || a,L[k].w || b⟩
  | g :: L,0,_,t,a,b,_,h => by
    rw [keysL,if_pos (show g.pat = t from h)]
    rfl
  | g :: L,k + 1,hk,t,a,b,h1,h2 => by
    rw [keysL,if_neg (h1 g (by simp)),keys_set L k (by simpa using hk) t a b (fun x hx => h1 x (by simp [hx])) h2]
    rfl
theorem keys_past : ∀ (L : List KG) (t : List UInt8) (a b : Bool),(∀ g ∈ L,g.pat ≠ t) → keysL L t a b = L ++ [⟨t,a,b⟩]
  | [],t,a,b,_ => rfl
  | g :: L,t,a,b,h => by
    rw [keysL,if_neg (h g (by simp)),keys_past L t a b (fun x hx => h x (by simp [hx]))]
    rfl
theorem glob_next {L : List KG} {k : Nat} {t : List UInt8} (hk : k < L.length) (h : ∀ g ∈ L.take k,g.pat ≠ t) (h2 : L[k].pat ≠ t) : ∀ g ∈ L.take (k + 1),g.pat ≠ t := by
 intro g hg
 rw [List.take_succ_eq_append_getElem hk] at hg
 rcases List.mem_append.1 hg with hg | hg
 · exact h g hg
 · rw [List.mem_singleton.1 hg]
   exact h2
theorem box_cells {w : World} {g : Nat} {k m : Int} {S : ByteArray} {a b : Bool} (h : w.heap[g]? = some (.cells #[.int .u8 k,.string S,.bool a,.bool b,.int .u64 m] 29 (0,0))) :
  w.cell? ⟨g,0,none⟩ = some (.int .u8 k) ∧ w.cell? ⟨g,1,none⟩ = some (.string S) ∧ w.cell? ⟨g,2,none⟩ = some (.bool a) ∧ w.cell? ⟨g,3,none⟩ = some (.bool b) ∧ w.cell? ⟨g,4,none⟩ = some (.int .u64 m) := by
 refine ⟨?_,?_,?_,?_,?_⟩ <;> rw [cell_of_row _ _ _ _ _ _ h] <;> rfl
theorem ownB_row {α : Type} {E : Enc α} {w : World} {g n c : Nat} {L : List α} (h : OwnB E w g n c L) (hn : n ≤ 1048576) : RowIn E w (some ⟨g,0,none⟩) n c L := by
 have hr := h.rs
 obtain ⟨h1,h2,cur,h3,h4,h5,h6⟩ := h
 exact ⟨hr,h1,hn,h2,h4,fun e => by cases e⟩
structure KRow (W0 : World) (k : Int) (T : ByteArray) (a b : Bool) (m : Int) (bx : Nat) (v : Value) (L : List KG) (wr : World) : Prop where
 own : OwnR glE W0.heap.size wr v L
 bel : Below W0.heap.size W0 wr
 box : wr.heap[bx]? = some (.cells #[.int .u8 k,.string T,.bool a,.bool b,.int .u64 m] 29 (0,0))
theorem KRow.keep {W0 : World} {k m : Int} {T : ByteArray} {a b : Bool} {bx : Nat} {v : Value} {L : List KG} {wr w' : World} (h : KRow W0 k T a b m bx v L wr) (hb : Below wr.heap.size wr w') : KRow W0 k T a b m bx v L w' :=
 ⟨h.own.keep hb,h.bel.trans (hb.mono h.bel.size),by rw [hb.block _ (Array.getElem?_eq_some_iff.1 h.box).1]; exact h.box⟩
structure KS (w W0 : World) (k : Int) (T : ByteArray) (a b : Bool) (m : Int) (g n c : Nat) (L : List KG) (wr : World) : Prop where
 row : OwnB glE wr g n c L
 bel : Below W0.heap.size W0 wr
 box : wr.heap[w.heap.size]? = some (.cells #[.int .u8 k,.string T,.bool a,.bool b,.int .u64 m] 29 (0,0))
theorem KS.set1 {w W0 : World} {k m : Int} {T : ByteArray} {a b : Bool} {g n c : Nat} {L : List KG} {wr : World} (h : KS w W0 k T a b m g n c L wr) (hg : W0.heap.size ≤ g) (hb : w.heap.size < W0.heap.size) (j : Nat) (hj : j < L.length) {x : KG} (hx : x = L[j]) (V : Bool) :
  KS w W0 k T a b m g n c (L.set j ⟨x.pat,V,x.w⟩) (wr.setCell ⟨g,j * 3 + 1,none⟩ (.bool V)) :=
 ⟨h.row.set j 1 (⟨x.pat,V,x.w⟩ : KG) (.bool V) hj (by decide) (by rw [← hx]; rfl),h.bel.setCell (p := ⟨g,j * 3 + 1,none⟩) hg _,by rw [heap_setCell_other _ _ _ _ (show w.heap.size ≠ g by omega)]; exact h.box⟩
theorem KS.set2 {w W0 : World} {k m : Int} {T : ByteArray} {a b : Bool} {g n c : Nat} {L : List KG} {wr : World} (h : KS w W0 k T a b m g n c L wr) (hg : W0.heap.size ≤ g) (hb : w.heap.size < W0.heap.size) (j : Nat) (hj : j < L.length) {x : KG} (hx : x = L[j]) (V : Bool) :
  KS w W0 k T a b m g n c (L.set j ⟨x.pat,x.r,V⟩) (wr.setCell ⟨g,j * 3 + 2,none⟩ (.bool V)) :=
 ⟨h.row.set j 2 (⟨x.pat,x.r,V⟩ : KG) (.bool V) hj (by decide) (by rw [← hx]; rfl),h.bel.setCell (p := ⟨g,j * 3 + 2,none⟩) hg _,by rw [heap_setCell_other _ _ _ _ (show w.heap.size ≠ g by omega)]; exact h.box⟩
theorem KS.cells {w W0 : World} {k m : Int} {T : ByteArray} {a b : Bool} {g n c : Nat} {L : List KG} {wr : World} (h : KS w W0 k T a b m g n c L wr) (j : Nat) (hj : j < L.length) {x : KG} (hx : x = L[j]) :
  wr.cell? ⟨g,j * 3 + 1,none⟩ = some (.bool x.r) ∧ wr.cell? ⟨g,j * 3 + 2,none⟩ = some (.bool x.w) ∧ wr.frozen? ⟨g,j * 3 + 1,none⟩ = false ∧ wr.frozen? ⟨g,j * 3 + 2,none⟩ = false := by
 refine ⟨?_,?_,h.row.frz _,h.row.frz _⟩
 · rw [hx]
   exact h.row.cell j 1 hj (by decide)
 · rw [hx]
   exact h.row.cell j 2 hj (by decide)
set_option maxHeartbeats 4000000 in
theorem keys_any (q : Option Addr) (L : List KG) (n c : Nat) (k m : Int) (T : ByteArray) (a b : Bool) (t : List UInt8) (w : World) (h : RowIn glE w q n c L) (hT : T.data.toList = t) (hz : n ≤ 1000000) :
  Calls Tryz.prog 28 #[.slice q n c,.agg #[.int .u8 k,.string T,.bool a,.bool b,.int .u64 m]] w fun e w' => AnsRow glE (keysL L t a b) w e w' := by
 obtain ⟨W0,hW0⟩ : ∃ W0,W0 = w.alloc (.cells #[.int .u8 k,.string T,.bool a,.bool b,.int .u64 m] 29) := ⟨_,rfl⟩
 have hBx : W0.heap[w.heap.size]? = some (.cells #[.int .u8 k,.string T,.bool a,.bool b,.int .u64 m] 29 (0,0)) := by rw [hW0]; exact heap_alloc_last w _
 have hB : Below w.heap.size w W0 := by rw [hW0]; exact Kit.below1 w _
 have HR := Lib.hid (h.keep hB)
 have HN := Lib.hid h.l
 have HO0 := Lib.hid (ownR_new glE W0.heap.size W0 W0.heap.size rfl (Nat.le_refl _))
 have HB0 := Lib.hid ((Below.refl W0.heap.size W0).alloc (Nat.le_refl _) (.cells #[] glE.ty))
 have HR1 := Lib.hid (HR.out.keep HB0.out)
 have HTd := Lib.hid hT
 have HBx := Lib.hid hBx
 have HB := Lib.hid hB
 clear h hT hBx hB
 go_enter Tryz.func28,Tryz.ntmps28
 go_upto_region 1 with fail
 rw [← hW0]
 clear hW0
 go_wp2_with (at_builtin; refine wpList_append_rs glE (w0 := W0) rfl (.tmp 7) (.tmp 8) rfl _ _ rfl HO0.out HB0.out q L n c rfl HN.out HR1.out.r HR1.out.e (by simp; omega) L rfl ?_; intro v5 w5 hown1 hb5)
 have HK5 := Lib.hid (KRow.mk (W0 := W0) hown1 hb5 (by rw [hb5.block _ (Array.getElem?_eq_some_iff.1 HBx.out).1]; exact HBx.out))
 clear hown1 hb5 HO0 HB0 HR1
 obtain ⟨q5,c5,rfl,hlc,hcm,hnl,hq⟩ := ValT.OwnR.rowO HK5.out.own
 rw [HN.out] at HK5 hlc hq ⊢
 have HQ := Lib.hid hq
 clear hq
 go_wp2_with fail
 go_loopw [6] (fun i wr => ∃ j : Nat,j ≤ n ∧ i = .int .i64 j ∧ Hid (∀ g ∈ L.take j,g.pat ≠ t) ∧ Hid (KRow W0 k T a b m w.heap.size (.slice q5 n c5) L wr ∧ Below w5.heap.size w5 wr)) (fun i _ => n - (intOf i).toNat)
 case atStart => exact ⟨0,Nat.zero_le _,rfl,Lib.hid (fun g hg => by simp at hg),Lib.hid ⟨HK5.out,Below.refl _ _⟩⟩
 case round =>
  obtain ⟨j,hj,rfl,HNo,HK⟩ := hrel
  by_cases hlt : j < n
  · have d1 : decide ((j : Int) < (n : Int)) = true := decide_eq_true (by omega)
    have hjl : j < L.length := by rw [HN.out]; exact hlt
    have j0 : (0 : Int) ≤ (j : Int) := by omega
    have j1 : (j : Int) < (n : Int) := by omega
    rcases HQ.out with e | ⟨g,rfl,hg,hO⟩
    · rw [e] at hjl
      exact absurd hjl (by simp)
    have hOw := hO.keep HK.out.2
    have hf1 := hOw.frz (j * 3 + 1)
    have HO := Lib.hid hOw
    have HG := Lib.hid hg
    have u0 : wr.cell? ⟨g,j * 3,none⟩ = some (.string ⟨L[j].pat.toArray⟩) := hOw.cell j 0 hjl (by decide)
    have u1 : wr.cell? ⟨g,j * 3 + 1,none⟩ = some (.bool L[j].r) := hOw.cell j 1 hjl (by decide)
    obtain ⟨c0,c1,c2,c3,c4⟩ := box_cells HK.out.1.box
    have HS := Lib.hid (keys_set L j hjl t a b HNo.out)
    have HNx := Lib.hid (glob_next (t := t) hjl HNo.out)
    have HSt := Lib.hid (fun wq (hq : OwnB glE wq g n c5 L) => OwnB.set (E := glE) hq j 1 (⟨L[j].pat,L[j].r || a,L[j].w⟩ : KG) (.bool (L[j].r || a)) hjl (by decide) rfl)
    obtain ⟨x,hx⟩ : ∃ x,x = L[j] := ⟨_,rfl⟩
    have HX := Lib.hid hx
    rw [← hx] at u0 u1 HS HNx HSt
    obtain ⟨xp,xr,xw⟩ := x
    simp only at u0 u1 HS HNx HSt
    obtain ⟨X,hX⟩ : ∃ X : ByteArray,X = ⟨xp.toArray⟩ := ⟨_,rfl⟩
    rw [← hX] at u0
    have hE : (X.toList == T.toList) = decide (xp = t) := by rw [ByteArray.toList_eq,ByteArray.toList_eq,HTd.out,hX,Bool.eq_iff_iff,beq_iff_eq,decide_eq_true_eq]
    clear hX hx hO hg
    by_cases hxt : xp = t
    · rw [decide_eq_true hxt] at hE
      have HS2 := Lib.hid (HS.out hxt)
      clear hxt HNx HS
      go_wp2_with fail
      go_quiet (fail)
      have HKq := Lib.hid (HK.out.1.keep (show Below wr.heap.size wr (wr.drewN nq) from ⟨rfl,rfl,rfl,Nat.le_refl _,fun _ _ => rfl⟩))
      have HOq := Lib.hid (show OwnB glE (wr.drewN nq) g n c5 L from HO.out)
      clear u0 u1 c0 c1 c2 c3 c4 hf1 hOw HK HO
      generalize wr.drewN nq = wq at HKq HOq ⊢
      have hbs : w.heap.size < W0.heap.size := (Array.getElem?_eq_some_iff.1 HBx.out).1
      have HKS := Lib.hid (KS.mk (w := w) HOq.out HKq.out.bel HKq.out.box)
      clear HKq HOq HSt
      obtain ⟨u1,u2,f1,f2⟩ := HKS.out.cells j hjl HX.out
      obtain ⟨c0,c1,c2,c3,c4⟩ := box_cells HKS.out.box
      simp only at u1 u2
      rcases xr with _ | _
      · have HK8 := Lib.hid (HKS.out.set1 HG.out hbs j hjl HX.out a)
        have hjl2 : j < (L.set j ⟨xp,a,xw⟩).length := by rw [List.length_set]; exact hjl
        have HX2 := Lib.hid (show (⟨xp,a,xw⟩ : KG) = (L.set j ⟨xp,a,xw⟩)[j] by simp)
        clear HKS
        go_upto_region 7 with fail
        generalize wq.setCell _ _ = w8 at HK8 ⊢
        clear u1 u2 f1 f2 c0 c1 c2 c3 c4
        obtain ⟨u1,u2,f1,f2⟩ := HK8.out.cells j hjl2 HX2.out
        obtain ⟨c0,c1,c2,c3,c4⟩ := box_cells HK8.out.box
        simp only at u1 u2
        rcases xw with _ | _
        · have HK9 := Lib.hid (HK8.out.set2 HG.out hbs j hjl2 HX2.out b)
          simp only [List.set_set] at HK9
          have HA := Lib.hid (show AnsRow glE (keysL L t a b) w (.returned (.slice (some ⟨g,0,none⟩) n c5)) (w8.setCell ⟨g,j * 3 + 2,none⟩ (.bool b)) from ⟨some ⟨g,0,none⟩,c5,by rw [HS2.out,List.length_set,HN.out],by rw [HS2.out,List.length_set,HN.out]; simpa using ownB_row HK9.out.row (by omega),fun a e => by injection e with e; subst e; exact Nat.le_trans HB.out.size HG.out,HB.out.trans (HK9.out.bel.mono HB.out.size)⟩)
          clear HK8 HK9
          go_wp2_with fail
          go_ret
          exact HA.out
        · have HK9 := Lib.hid (HK8.out.set2 HG.out hbs j hjl2 HX2.out true)
          simp only [List.set_set] at HK9
          have HA := Lib.hid (show AnsRow glE (keysL L t a b) w (.returned (.slice (some ⟨g,0,none⟩) n c5)) (w8.setCell ⟨g,j * 3 + 2,none⟩ (.bool true)) from ⟨some ⟨g,0,none⟩,c5,by rw [HS2.out,List.length_set,HN.out],by rw [HS2.out,List.length_set,HN.out]; simpa using ownB_row HK9.out.row (by omega),fun a e => by injection e with e; subst e; exact Nat.le_trans HB.out.size HG.out,HB.out.trans (HK9.out.bel.mono HB.out.size)⟩)
          clear HK8 HK9
          go_wp2_with fail
          go_ret
          exact HA.out
      · have HK8 := Lib.hid (HKS.out.set1 HG.out hbs j hjl HX.out true)
        have hjl2 : j < (L.set j ⟨xp,true,xw⟩).length := by rw [List.length_set]; exact hjl
        have HX2 := Lib.hid (show (⟨xp,true,xw⟩ : KG) = (L.set j ⟨xp,true,xw⟩)[j] by simp)
        clear HKS
        go_upto_region 7 with fail
        generalize wq.setCell _ _ = w8 at HK8 ⊢
        clear u1 u2 f1 f2 c0 c1 c2 c3 c4
        obtain ⟨u1,u2,f1,f2⟩ := HK8.out.cells j hjl2 HX2.out
        obtain ⟨c0,c1,c2,c3,c4⟩ := box_cells HK8.out.box
        simp only at u1 u2
        rcases xw with _ | _
        · have HK9 := Lib.hid (HK8.out.set2 HG.out hbs j hjl2 HX2.out b)
          simp only [List.set_set] at HK9
          have HA := Lib.hid (show AnsRow glE (keysL L t a b) w (.returned (.slice (some ⟨g,0,none⟩) n c5)) (w8.setCell ⟨g,j * 3 + 2,none⟩ (.bool b)) from ⟨some ⟨g,0,none⟩,c5,by rw [HS2.out,List.length_set,HN.out],by rw [HS2.out,List.length_set,HN.out]; simpa using ownB_row HK9.out.row (by omega),fun a e => by injection e with e; subst e; exact Nat.le_trans HB.out.size HG.out,HB.out.trans (HK9.out.bel.mono HB.out.size)⟩)
          clear HK8 HK9
          go_wp2_with fail
          go_ret
          exact HA.out
        · have HK9 := Lib.hid (HK8.out.set2 HG.out hbs j hjl2 HX2.out true)
          simp only [List.set_set] at HK9
          have HA := Lib.hid (show AnsRow glE (keysL L t a b) w (.returned (.slice (some ⟨g,0,none⟩) n c5)) (w8.setCell ⟨g,j * 3 + 2,none⟩ (.bool true)) from ⟨some ⟨g,0,none⟩,c5,by rw [HS2.out,List.length_set,HN.out],by rw [HS2.out,List.length_set,HN.out]; simpa using ownB_row HK9.out.row (by omega),fun a e => by injection e with e; subst e; exact Nat.le_trans HB.out.size HG.out,HB.out.trans (HK9.out.bel.mono HB.out.size)⟩)
          clear HK8 HK9
          go_wp2_with fail
          go_ret
          exact HA.out
    · rw [decide_eq_false hxt] at hE
      have HN2 := Lib.hid (HNx.out hxt)
      clear hxt HNx HS
      go_wp2_with fail
      go_quiet (fail)
      have hbq : Below wr.heap.size wr (wr.drewN nq) := ⟨rfl,rfl,rfl,Nat.le_refl _,fun _ _ => rfl⟩
      have HKq := Lib.hid (And.intro (HK.out.1.keep hbq) (HK.out.2.trans (hbq.mono HK.out.2.size)))
      clear u0 u1 c0 c1 c2 c3 c4 hf1 hbq
      generalize wr.drewN nq = wq at HKq ⊢
      go_wp2_with fail
      go_roundw
      case rel => exact ⟨j + 1,by omega,by go_num,HN2,HKq⟩
      case measure => simp [intOf]; omega
  · have d1 : decide ((j : Int) < (n : Int)) = false := decide_eq_false (by omega)
    have hno : ∀ g ∈ L,g.pat ≠ t := by
     have := HNo.out
     rwa [List.take_of_length_le (by rw [HN.out]; omega)] at this
    have HS := Lib.hid (keys_past L t a b hno)
    have HC := Lib.hid (fun (W : World) => rec_new glE W W.heap.size (⟨t,a,b⟩ : KG) #[.string T,.bool a,.bool b] (by rw [← HTd.out]; rfl) rfl)
    have HO1 := Lib.hid (HK.out.1.own.keep (show Below wr.heap.size wr (wr.alloc (.cells #[.string T,.bool a,.bool b] glE.ty)) from (Below.refl _ _).alloc (Nat.le_refl _) _))
    have HBa := Lib.hid (HK.out.1.bel.alloc HK.out.1.bel.size (.cells #[.string T,.bool a,.bool b] glE.ty))
    have hol : L.length ≤ 1048576 := by rw [HN.out]; omega
    obtain ⟨c0,c1,c2,c3,c4⟩ := box_cells HK.out.1.box
    clear hno HNo HQ HK5
    go_wp2_with (at_builtin; refine wpList_append_r glE (w0 := W0) rfl (.tmp 51) (.tmp 59) rfl _ _ rfl HO1.out HBa.out wr.heap.size (⟨t,a,b⟩ : KG) 1 rfl (HC.out wr) hol ?_; intro v' w7 hown1 hb7)
    go_ret
    rw [HS.out]
    exact ans_row hown1 (by simp [HN.out]; omega) (HB.out.trans (hb7.mono HB.out.size)) HB.out.size
end Go.Proofs.YtpoinibckmbfcaaGreatDoor.RefUser
namespace Go.Proofs.YtpoinibckmbfcaaGreatDoor.UserT
open Go.RowKit Kit TableMath Low RuleT HexMath NumMath
open NumW (wordB okByte)
open MacM (rightB recL recOf recOf3 three cutL)
set_option linter.unusedVariables false
set_option maxRecDepth 100000
theorem word_blank {l : List UInt8} (h : wordB l = true) : (32 : UInt8) ∉ l := by
 intro hm
 unfold NumW.wordB at h
 rw [Bool.and_eq_true,List.all_eq_true] at h
 have := h.1 _ hm
 revert this
 decide
theorem digV_blank : digV 32 = none := by decide
theorem unhex_blank : ∀ (l : List UInt8),(32 : UInt8) ∈ l → unhexL l = none
  | [],h => by simp at h
  | [_],_ => rfl
  | a :: b :: r,h => by
    rcases List.mem_cons.1 h with h | h
    · exact unhex_bad _ _ _ (Or.inl (by rw [← h]; exact digV_blank))
    · rcases List.mem_cons.1 h with h | h
      · exact unhex_bad _ _ _ (Or.inr (by rw [← h]; exact digV_blank))
      · rw [unhexL_cons,unhex_blank r h]
        split <;> simp_all
theorem itoa_blank (n : Int) : (32 : UInt8) ∉ Lib.itoa n := by
 intro h
 rcases itoa_mem n _ h with h | h
 · exact absurd h (by decide)
 · unfold isDig at h
   revert h
   decide
theorem cut_some : ∀ (l : List UInt8) {a b : List UInt8},cutL l = some (a,b) → l = a ++ 58 :: b
  | [],_,_,h => by simp [cutL] at h
  | c :: r,a,b,h => by
    rw [cutL] at h
    by_cases hc : c = 58
    · rw [if_pos hc] at h
      obtain ⟨rfl,rfl⟩ := Prod.mk.inj (Option.some.inj h)
      rw [hc]
      rfl
    · rw [if_neg hc] at h
      rcases hr : cutL r with _ | ⟨x,y⟩
      · rw [hr] at h
        cases h
      · rw [hr] at h
        obtain ⟨rfl,rfl⟩ := Prod.mk.inj (Option.some.inj h)
        rw [cut_some r hr]
        rfl
theorem rec_blank {l : List UInt8} (h : rightB l = true) : (32 : UInt8) ∉ l := by
 unfold MacM.rightB at h
 rcases ho : recOf l with _ | ⟨r,salt,d⟩
 · rw [ho] at h
   cases h
 · rcases h3 : three l with _ | ⟨a,b,c⟩
   · rw [MacM.recOf_no h3] at ho
     cases ho
   · rw [MacM.recOf_three h3] at ho
     obtain ⟨pa,ub,uc,-⟩ := MacM.recOf3_inv ho
     have ha : (32 : UInt8) ∉ a := by
      rw [← (parse_some pa).1]
      exact itoa_blank _
     have hb : (32 : UInt8) ∉ b := fun e => by rw [unhex_blank _ e] at ub; cases ub
     have hc : (32 : UInt8) ∉ c := fun e => by rw [unhex_blank _ e] at uc; cases uc
     unfold MacM.three at h3
     rcases h1 : cutL l with _ | ⟨x,y⟩
     · rw [h1] at h3
       cases h3
     · rw [h1] at h3
       rcases h2 : cutL y with _ | ⟨y1,y2⟩
       · simp only [h2] at h3
         cases h3
       · simp only [h2] at h3
         obtain ⟨rfl,e⟩ := Prod.mk.inj (Option.some.inj h3)
         obtain ⟨rfl,rfl⟩ := Prod.mk.inj e
         rw [cut_some _ h1,cut_some _ h2]
         simp only [List.mem_append,List.mem_cons,not_or]
         exact ⟨ha,by decide,hb,by decide,hc⟩
theorem mark_blank (g : KG) : (32 : UInt8) ∉ markL g := by
 unfold markL
 split
 · split <;> decide
 · decide
theorem name_blank (i : Nat) (h : i < 56) : (32 : UInt8) ∉ (cmdAt i).name := by
 have : (List.range 56).all (fun i => decide ((32 : UInt8) ∉ (cmdAt i).name)) = true := by decide +kernel
 exact of_decide_eq_true (List.all_eq_true.1 this i (List.mem_range.2 h))
theorem ids_lt {m i : Nat} (h : i ∈ idsL m) : i < 56 := List.mem_range.1 (List.mem_filter.1 h).1
theorem cmds_blank (m : Nat) : ∀ w ∈ cmdsW m,(32 : UInt8) ∉ w := by
 unfold cmdsW
 intro w hw
 split at hw
 · rw [List.mem_singleton.1 hw]
   decide
 · rcases List.mem_cons.1 hw with rfl | hw
   · decide
   · obtain ⟨i,hi,rfl⟩ := List.mem_map.1 hw
     rw [List.mem_cons,not_or]
     exact ⟨by decide,name_blank i (ids_lt hi)⟩
theorem body_blank {u : UV} (h : RightU u) : ∀ w ∈ bodyW u,(32 : UInt8) ∉ w := by
 unfold bodyW
 intro w hw
 simp only [List.mem_cons,List.mem_append] at hw
 rcases hw with rfl | hw | hw | hw | hw | hw
 · cases u.on <;> decide
 · split at hw
   · rw [List.mem_singleton.1 hw]
     decide
   · cases hw
 · obtain ⟨x,hx,rfl⟩ := List.mem_map.1 hw
   rw [List.mem_cons,not_or]
   exact ⟨by decide,rec_blank (h.hr x hx)⟩
 · obtain ⟨g,hg,rfl⟩ := List.mem_map.1 hw
   rw [List.mem_append,not_or]
   exact ⟨mark_blank g,word_blank (h.kw g hg)⟩
 · obtain ⟨c,hc,rfl⟩ := List.mem_map.1 hw
   rw [List.mem_cons,not_or]
   exact ⟨by decide,word_blank (h.cw c hc)⟩
 · exact cmds_blank _ w hw
theorem words_blank {u : UV} (h : RightU u) : ∀ w ∈ wordsD u,(32 : UInt8) ∉ w := by
 unfold wordsD
 intro w hw
 rcases List.mem_cons.1 hw with rfl | hw
 · decide
 · rcases List.mem_cons.1 hw with rfl | hw
   · exact word_blank h.nw
   · exact body_blank h w hw
theorem split_text {u : UV} (h : RightU u) : splitW (textD u) = wordsD u := split_join _ (by simp [wordsD]) (words_blank h)
theorem foldU_app : ∀ (u : UV) (a b : List (List UInt8)),foldU u (a ++ b) = (foldU u a).bind fun v => foldU v b
  | u,[],b => rfl
  | u,w :: a,b => by
    rw [List.cons_append,foldU,foldU]
    cases stepU u w with
    | none => rfl
    | some v => exact foldU_app v a b
theorem step_of {u v : UV} {w : List UInt8} {r : RV} (hr : ruleD w = some r) (h5 : r.kind ≠ 5) (ha : applyD u r none = some v) : stepU u w = some { v with np := v.np || u.np } := by
 unfold stepU
 rw [hr]
 simp only
 rw [if_neg h5,ha]
 rfl
theorem apply_of {u : UV} {r : RV} (hr : rightR r = true) (h5 : r.kind ≠ 5) (hf : fewB (setU u r []) = true) : applyD u r none = some (setU u r []) := by
 unfold applyD
 rw [if_pos hr,if_neg h5,if_pos hf]
theorem few_of {u : UV} (h1 : u.hs.length ≤ 64) (h2 : u.ks.length ≤ 64) (h3 : u.cs.length ≤ 64) : fewB u = true := decide_eq_true ⟨h1,h2,h3⟩
theorem step_on (u : UV) (h : fewB u = true) : stepU u [111,110] = some { u with on := true } := by
 rw [step_of (v := { u with on := true }) (r := ⟨1,[],false,false,0⟩) (by decide +kernel) (by decide) (apply_of (by decide) (by decide) h)]
 simp
theorem step_off (u : UV) (h : fewB u = true) : stepU u [111,102,102] = some { u with on := false } := by
 rw [step_of (v := { u with on := false }) (r := ⟨2,[],false,false,0⟩) (by decide +kernel) (by decide) (apply_of (by decide) (by decide) h)]
 simp
theorem step_np (u : UV) (h : fewB u = true) (he : u.hs = []) : stepU u [110,111,112,97,115,115] = some { u with np := true } := by
 have hf : fewB { u with np := true,hs := [] } = true := by rw [← he]; exact h
 rw [step_of (v := { u with np := true,hs := [] }) (r := ⟨3,[],false,false,0⟩) (by decide +kernel) (by decide) (apply_of (by decide) (by decide) hf)]
 simp [he]
theorem more_new {l : List (List UInt8)} {s : List UInt8} (h : s ∉ l) : moreL l s = l ++ [s] := if_neg h
theorem step_hash (u : UV) (s : List UInt8) (hr : rightB s = true) (hn : s ∉ u.hs) (hl : u.hs.length < 64) (h : fewB u = true) : stepU u (35 :: s) = some { u with hs := u.hs ++ [s] } := by
 have e : ruleD (35 :: s) = some ⟨6,s,false,false,0⟩ := by rw [rule_hash,if_pos hr]
 have hk : rightR ⟨6,s,false,false,0⟩ = true := by simp [rightR,hr]
 have hf : fewB (setU u ⟨6,s,false,false,0⟩ []) = true := by
  show fewB { u with np := false,hs := moreL u.hs s } = true
  have := of_decide_eq_true h
  rw [more_new hn]
  exact few_of (by simp; omega) this.2.1 this.2.2
 rw [step_of e (by simp) (apply_of hk (by simp) hf)]
 show some { u with np := false || u.np,hs := moreL u.hs s } = _
 rw [more_new hn]
 simp
theorem fold_hash : ∀ (l : List (List UInt8)) (u : UV),(∀ s ∈ l,rightB s = true) → (u.hs ++ l).Nodup → (u.hs ++ l).length ≤ 64 → fewB u = true → foldU u (l.map fun h => 35 :: h) = some { u with hs := u.hs ++ l }
  | [],u,_,_,_,_ => by simp [foldU]
  | s :: l,u,h1,h2,h3,h4 => by
    have e : u.hs ++ s :: l = (u.hs ++ [s]) ++ l := by simp
    have hn : s ∉ u.hs := fun hm => by
     have := List.nodup_append.1 h2
     exact this.2.2 s hm s (by simp) rfl
    have hl : u.hs.length < 64 := by
     rw [List.length_append,List.length_cons] at h3
     omega
    have hf := of_decide_eq_true h4
    rw [List.map_cons,foldU,step_hash u s (h1 s (by simp)) hn hl h4]
    show foldU { u with hs := u.hs ++ [s] } _ = _
    rw [fold_hash l { u with hs := u.hs ++ [s] } (fun x hx => h1 x (by simp [hx])) (by rw [← e]; exact h2) (by rw [← e]; exact h3) (few_of (by simp; omega) hf.2.1 hf.2.2),e]
theorem keys_new : ∀ (l : List KG) (s : List UInt8) (a b : Bool),s ∉ l.map (·.pat) → keysL l s a b = l ++ [⟨s,a,b⟩]
  | [],s,a,b,_ => rfl
  | g :: t,s,a,b,h => by
    rw [List.map_cons,List.mem_cons,not_or] at h
    rw [keysL,if_neg (fun e => h.1 e.symm),keys_new t s a b h.2]
    rfl
theorem rule_mark_key (g : KG) (hw : wordB g.pat = true) (ha : (g.r || g.w) = true) : ruleD (markL g ++ g.pat) = some ⟨10,g.pat,g.r,g.w,0⟩ := by
 obtain ⟨p,r,w⟩ := g
 have hp : ∀ a b,patD 10 p a b = some ⟨10,p,a,b,0⟩ := fun a b => if_pos hw
 cases r <;> cases w
 · cases ha
 · exact (rule_write p).trans (hp _ _)
 · exact (rule_read p).trans (hp _ _)
 · exact (rule_both p).trans (hp _ _)
theorem step_key (u : UV) (g : KG) (hw : wordB g.pat = true) (ha : (g.r || g.w) = true) (hn : g.pat ∉ u.ks.map (·.pat)) (hl : u.ks.length < 64) (h : fewB u = true) : stepU u (markL g ++ g.pat) = some { u with ks := u.ks ++ [g] } := by
 have hk : rightR ⟨10,g.pat,g.r,g.w,0⟩ = true := by
  unfold rightR
  simp [hw]
  simpa using ha
 have hf : fewB (setU u ⟨10,g.pat,g.r,g.w,0⟩ []) = true := by
  show fewB { u with ks := keysL u.ks g.pat g.r g.w } = true
  have := of_decide_eq_true h
  rw [keys_new _ _ _ _ hn]
  exact few_of this.1 (by simp; omega) this.2.2
 rw [step_of (rule_mark_key g hw ha) (by simp) (apply_of hk (by simp) hf)]
 show some { u with ks := keysL u.ks g.pat g.r g.w,np := u.np || u.np } = _
 rw [keys_new _ _ _ _ hn]
 simp
theorem fold_keys : ∀ (l : List KG) (u : UV),(∀ g ∈ l,wordB g.pat = true) → (∀ g ∈ l,(g.r || g.w) = true) → ((u.ks ++ l).map (·.pat)).Nodup → (u.ks ++ l).length ≤ 64 → fewB u = true → foldU u (l.map fun g => markL g ++ g.pat) = some { u with ks := u.ks ++ l }
  | [],u,_,_,_,_,_ => by simp [foldU]
  | g :: l,u,h1,h0,h2,h3,h4 => by
    have e : u.ks ++ g :: l = (u.ks ++ [g]) ++ l := by simp
    have hn : g.pat ∉ u.ks.map (·.pat) := fun hm => by
     rw [List.map_append] at h2
     have := List.nodup_append.1 h2
     exact this.2.2 _ hm g.pat (by simp) rfl
    have hl : u.ks.length < 64 := by
     rw [List.length_append,List.length_cons] at h3
     omega
    have hf := of_decide_eq_true h4
    rw [List.map_cons,foldU,step_key u g (h1 g (by simp)) (h0 g (by simp)) hn hl h4]
    show foldU { u with ks := u.ks ++ [g] } _ = _
    rw [fold_keys l { u with ks := u.ks ++ [g] } (fun x hx => h1 x (by simp [hx])) (fun x hx => h0 x (by simp [hx])) (by rw [← e]; exact h2) (by rw [← e]; exact h3) (few_of hf.1 (by simp; omega) hf.2.2),e]
theorem step_chan (u : UV) (s : List UInt8) (hw : wordB s = true) (hn : s ∉ u.cs) (hl : u.cs.length < 64) (h : fewB u = true) : stepU u (38 :: s) = some { u with cs := u.cs ++ [s] } := by
 have e : ruleD (38 :: s) = some ⟨12,s,false,false,0⟩ := by rw [rule_chan]; exact if_pos hw
 have hk : rightR ⟨12,s,false,false,0⟩ = true := by simp [rightR,hw]
 have hf : fewB (setU u ⟨12,s,false,false,0⟩ []) = true := by
  show fewB { u with cs := moreL u.cs s } = true
  have := of_decide_eq_true h
  rw [more_new hn]
  exact few_of this.1 this.2.1 (by simp; omega)
 rw [step_of e (by simp) (apply_of hk (by simp) hf)]
 show some { u with cs := moreL u.cs s,np := u.np || u.np } = _
 rw [more_new hn]
 simp
theorem fold_chans : ∀ (l : List (List UInt8)) (u : UV),(∀ s ∈ l,wordB s = true) → (u.cs ++ l).Nodup → (u.cs ++ l).length ≤ 64 → fewB u = true → foldU u (l.map fun h => 38 :: h) = some { u with cs := u.cs ++ l }
  | [],u,_,_,_,_ => by simp [foldU]
  | s :: l,u,h1,h2,h3,h4 => by
    have e : u.cs ++ s :: l = (u.cs ++ [s]) ++ l := by simp
    have hn : s ∉ u.cs := fun hm => by
     have := List.nodup_append.1 h2
     exact this.2.2 s hm s (by simp) rfl
    have hl : u.cs.length < 64 := by
     rw [List.length_append,List.length_cons] at h3
     omega
    have hf := of_decide_eq_true h4
    rw [List.map_cons,foldU,step_chan u s (h1 s (by simp)) hn hl h4]
    show foldU { u with cs := u.cs ++ [s] } _ = _
    rw [fold_chans l { u with cs := u.cs ++ [s] } (fun x hx => h1 x (by simp [hx])) (by rw [← e]; exact h2) (by rw [← e]; exact h3) (few_of hf.1 hf.2.1 (by simp; omega)),e]
theorem named_id {i : Nat} (h : i < 56) : namedB (2 ^ i) = true := by
 unfold namedB
 rw [Bool.or_eq_true,Bool.or_eq_true]
 exact Or.inr (Or.inr (List.any_eq_true.2 ⟨i,List.mem_range.2 h,decide_eq_true rfl⟩))
theorem step_cmd (u : UV) (i : Nat) (hi : i < 56) (h : fewB u = true) : stepU u (43 :: (cmdAt i).name) = some { u with cmds := u.cmds ||| 2 ^ i } := by
 have e : ruleD (43 :: (cmdAt i).name) = some ⟨8,[],false,false,2 ^ i⟩ := by rw [rule_add,(mask_cmd i hi).1]; rfl
 have hk : rightR ⟨8,[],false,false,2 ^ i⟩ = true := by simp [rightR,named_id hi]
 rw [step_of e (by simp) (apply_of hk (by simp) h)]
 show some { u with cmds := u.cmds ||| 2 ^ i,np := u.np || u.np } = _
 simp
theorem fold_cmds : ∀ (l : List Nat) (u : UV),(∀ i ∈ l,i < 56) → fewB u = true → foldU u (l.map fun i => 43 :: (cmdAt i).name) = some { u with cmds := l.foldl (fun m i => m ||| 2 ^ i) u.cmds }
  | [],u,_,_ => by simp [foldU]
  | i :: l,u,h1,h4 => by
    rw [List.map_cons,foldU,step_cmd u i (h1 i (by simp)) h4]
    show foldU { u with cmds := u.cmds ||| 2 ^ i } _ = _
    rw [fold_cmds l { u with cmds := u.cmds ||| 2 ^ i } (fun x hx => h1 x (by simp [hx])) h4]
    rfl
theorem step_all (u : UV) (h : fewB u = true) (h0 : u.cmds = 0) : stepU u [43,64,97,108,108] = some { u with cmds := allM } := by
 have e : ruleD [43,64,97,108,108] = some ⟨8,[],false,false,allM⟩ := by decide +kernel
 rw [step_of e (by simp) (apply_of (by decide +kernel) (by simp) h)]
 show some { u with cmds := u.cmds ||| allM,np := u.np || u.np } = _
 rw [h0]
 simp
theorem step_none (u : UV) (h : fewB u = true) (h0 : u.cmds = 0) : stepU u [45,64,97,108,108] = some u := by
 have e : ruleD [45,64,97,108,108] = some ⟨9,[],false,false,allM⟩ := by decide +kernel
 rw [step_of e (by simp) (apply_of (by decide +kernel) (by simp) h)]
 show some { u with cmds := u.cmds ^^^ (u.cmds &&& allM),np := u.np || u.np } = _
 rw [h0]
 simp
 cases u
 simp_all
theorem fold_bit : ∀ (l : List Nat) (m k : Nat),(l.foldl (fun m i => m ||| 2 ^ i) m).testBit k = (m.testBit k || decide (k ∈ l))
  | [],m,k => by simp
  | i :: l,m,k => by
    rw [List.foldl_cons,fold_bit l _ k,Nat.testBit_or,Nat.testBit_two_pow]
    by_cases h : i = k
    · subst h
      simp
    · have h' : k ≠ i := fun e => h e.symm
      simp [h,h']
theorem ids_sum {m : Nat} (h : m ≤ allM) : (idsL m).foldl (fun m i => m ||| 2 ^ i) 0 = m := by
 apply Nat.eq_of_testBit_eq
 intro k
 rw [fold_bit,Nat.zero_testBit,Bool.false_or]
 unfold idsL
 by_cases hk : k < 56
 · simp [List.mem_filter,hk]
 · have : m.testBit k = false := by
    apply Nat.testBit_lt_two_pow
    have h1 : m < 2 ^ 56 := by unfold allM at h; omega
    exact Nat.lt_of_lt_of_le h1 (Nat.pow_le_pow_right (by decide) (by omega))
   simp [List.mem_filter,hk,this]
theorem fold_cmdsW {u : UV} {m : Nat} (hm : m ≤ allM) (h : fewB u = true) (h0 : u.cmds = 0) : foldU u (cmdsW m) = some { u with cmds := m } := by
 unfold cmdsW
 by_cases ha : m = allM
 · rw [if_pos ha,foldU,step_all u h h0,ha]
   rfl
 · rw [if_neg ha,foldU,step_none u h h0]
   show foldU u _ = _
   rw [fold_cmds _ u (fun i hi => ids_lt hi) h,h0,ids_sum hm]
theorem fold_body {u : UV} (h : RightU u) : foldU (newU u.name) (bodyW u) = some u := by
 have hn : ((List.map (fun g : KG => g.pat) u.ks)).Nodup := h.kn
 unfold bodyW
 have f0 : fewB (newU u.name) = true := few_of (Nat.zero_le _) (Nat.zero_le _) (Nat.zero_le _)
 have e1 : stepU (newU u.name) (if u.on then [111,110] else [111,102,102]) = some (UV.mk u.name u.on false [] 0 [] []) := by
  cases u.on
  · exact step_off _ f0
  · exact step_on _ f0
 rw [foldU,e1]
 show foldU (UV.mk u.name u.on false [] 0 [] []) _ = _
 have e2 : foldU (UV.mk u.name u.on false [] 0 [] []) (if u.np then [[110,111,112,97,115,115]] else []) = some (UV.mk u.name u.on u.np [] 0 [] []) := by
  cases u.np
  · rfl
  · show (stepU _ _).bind _ = _
    rw [step_np (UV.mk u.name u.on false [] 0 [] []) f0 rfl]
    rfl
 rw [foldU_app,e2]
 show foldU (UV.mk u.name u.on u.np [] 0 [] []) _ = _
 rw [foldU_app,fold_hash u.hs (UV.mk u.name u.on u.np [] 0 [] []) h.hr h.hn h.hl f0]
 show foldU (UV.mk u.name u.on u.np u.hs 0 [] []) _ = _
 rw [foldU_app,fold_keys u.ks (UV.mk u.name u.on u.np u.hs 0 [] []) h.kw h.ka hn h.kl (few_of h.hl (Nat.zero_le _) (Nat.zero_le _))]
 show foldU (UV.mk u.name u.on u.np u.hs 0 u.ks []) _ = _
 rw [foldU_app,fold_chans u.cs (UV.mk u.name u.on u.np u.hs 0 u.ks []) h.cw h.cn h.cl (few_of h.hl h.kl (Nat.zero_le _))]
 show foldU (UV.mk u.name u.on u.np u.hs 0 u.ks u.cs) _ = _
 rw [fold_cmdsW (u := UV.mk u.name u.on u.np u.hs 0 u.ks u.cs) h.m (few_of h.hl h.kl h.cl) rfl]
theorem parse_text {u : UV} (h : rightU u = true) : parseD (textD u) = some u := by
 have hr := (right_iff u).1 h
 unfold parseD
 rw [split_text hr]
 show (foldU (newU u.name) (bodyW u)).bind _ = _
 rw [fold_body hr]
 exact if_pos ⟨h,rfl⟩
theorem parse_some {l : List UInt8} {u : UV} (h : parseD l = some u) : rightU u = true ∧ textD u = l := by
 unfold parseD at h
 split at h
 · rename_i n t hs
   obtain ⟨v,hv,h2⟩ := Option.bind_eq_some_iff.1 h
   split at h2
   · rename_i hc
     obtain rfl := Option.some.inj h2
     exact hc
   · cases h2
 · cases h
end Go.Proofs.YtpoinibckmbfcaaGreatDoor.UserT
