/-
  Packed by program.
-/
import Derived.Deep.CutBlock
import Derived.Deep.AppendLies
import Derived.Test.YtpoinibckmbfcaaGreatDoorPk12
import Derived.Test.YtpoinibckmbfcaaGreatDoorPk13
namespace Go.Proofs.YtpoinibckmbfcaaGreatDoor.RefM
open Go.RowKit Kit ShaMath ShaT MacM MacT RefT
open Go.Sort (grow)
set_option linter.unusedVariables false
set_option maxRecDepth 100000
theorem step_append_bs {w0 w : World} {ops : Array Oper} {o : Oper} {a : Act} {K : Act → World → Prop} {Q : Exit → Act → World → Prop} {E : Prop} (hgd : o.guard = none) (s x : Operand)
    (ho : o.op = .call { callee := .builtin .append,args := #[s,x],argTypes := #[30,30] })
    (v : Value) (xs : List UInt8) (hs : a.eval s = v) (hown : Own w0.heap.size w v xs) (hb : Below w0.heap.size w0 w)
    (q : Option Addr) (l : List UInt8) (m c : Nat) (hx : a.eval x = .slice q m c) (hm : l.length = m) (hl : Bs w q l) (hnil : q = none → c = 0) (hsz : xs.length + m ≤ 70368744177664) (z : List UInt8) (hzz : z = xs ++ l)
    (h : ∀ v' w',Own w0.heap.size w' v' z → Below w0.heap.size w0 w' → K (a.put o.dst v') w') : if Region.wanted o (yielded ops a.tmps) = true then Oper.wp Tryz.prog o a w K Q else E := by
  rw [if_pos (by simp [Region.wanted,hgd])]
  exact wp_append_bs s x ho v xs hs hown hb q l m c hx hm hl hnil hsz z hzz h
theorem own_less {b b' : Nat} {w : World} {v : Value} {l : List UInt8} (h : Own b w v l) (hb : b' ≤ b) : Own b' w v l := by
 refine ⟨h.1,?_⟩
 rcases h.2 with ⟨e,h0⟩ | ⟨g,cap,cur,e,hg,hh⟩
 · exact Or.inl ⟨e,h0⟩
 · exact Or.inr ⟨g,cap,cur,e,Nat.le_trans hb hg,hh⟩
theorem bytesOf_succ (k : Nat) (f : Nat → Nat) : bytesOf (k + 1) f = bytesOf k f ++ [UInt8.ofNat (f k)] := by
 unfold bytesOf
 rw [List.range_succ,List.map_append]
 rfl
theorem rsum_n (p : Option Addr) (l : List UInt8) (n cap : Nat) (w : World) (hn : l.length = n) (hb : Bs w p l) (hl : l.length ≤ 70368744176640) (hnil : p = none → cap = 0) :
  Calls Tryz.prog 135 #[.slice p n cap] w fun e w' => e = .returned (.agg (row .u8 32 (sumAt l))) ∧ Below w.heap.size w w' := by
 subst hn
 exact rsum_any p l cap w hb hl hnil
def Gave (L : List UInt8) (w : World) (e : Ending) (w' : World) : Prop :=
 ∃ v,e = .returned v ∧ Own w.heap.size w' v L ∧ Below w.heap.size w w'
set_option maxHeartbeats 2000000 in
theorem flipped_any (p : Option Addr) (l : List UInt8) (n cap : Nat) (v : Nat) (w : World) (hn : l.length = n) (hb : Bs w p l) (hl : l.length ≤ 70368744170000) (hnil : p = none → cap = 0) (hv : v < 256) :
  Calls Tryz.prog 136 #[.slice p n cap,.int .u8 (v : Int)] w (Gave (padL (keyAt l) v) w) := by
 obtain ⟨hz3,hn3⟩ := zero_of_info info_32
 have HN := Lib.hid hn3
 clear hn3
 obtain ⟨X,hX⟩ : ∃ X,X = shortKey l := ⟨_,rfl⟩
 have hXl : X.length ≤ 64 := by rw [hX]; exact shortKey_length l
 have hlong : 64 < n → sumList l = X := fun h => by rw [hX,shortKey_long (by omega)]
 have hshort : ¬ 64 < n → l = X := fun h => by rw [hX,shortKey_short (by omega)]
 have HKX := Lib.hid (show keyAt l = byte X by rw [hX]; rfl)
 have HB := Lib.hid hb
 have HNn := Lib.hid hn
 rw [HKX.out]
 clear hX hb hn
 go_enter Tryz.func136,Tryz.ntmps136
 go_upto_if 11 with fail
 go_cut [0] (fun v wx => ∃ q c,v = .slice q X.length c ∧ Bs wx q X ∧ (q = none → c = 0) ∧ Below w.heap.size w wx)
 case first =>
  by_cases h64 : 64 < n
  · have hd : decide (64 < (n : Int)) = true := decide_eq_true (by omega)
    have HL := Lib.hid (hlong h64)
    have CS := Lib.hid (rsum_n p l n cap w HNn.out HB.out (by omega) hnil)
    clear hlong hshort
    go_wp2_with fail
    refine CS.out.mono ?_
    rintro e w1 ⟨rfl,hb1⟩
    go_wp2_with (with_reducible refine wpList_store_arr rfl 89 (.tmp 5) (.tmp 13) rfl w1.heap.size .u8 32 (sumAt l) rfl rfl 89 _ Arr.new HN ?_)
    go_meet
    have hA : Arr ((w1.alloc (.cells (row .u8 32 fun _ => 0) 89)).setRow w1.heap.size (row .u8 32 (sumAt l))) w1.heap.size .u8 32 89 (sumAt l) := Arr.new.setRow _
    exact ⟨some ⟨w1.heap.size,0,none⟩,32,by rw [← HL.out,sumList_length],by rw [← HL.out]; exact arr_bs hA (sumAt_lt l),(fun h => by cases h),below_setRow (hb1.alloc hb1.size _) hb1.size _⟩
  · have hd : decide (64 < (n : Int)) = false := decide_eq_false (by omega)
    have HL := Lib.hid (hshort h64)
    clear hlong hshort
    go_wp2_with fail
    go_meet
    exact ⟨p,cap,by rw [← HL.out,HNn.out],by rw [← HL.out]; exact HB.out,hnil,Below.refl _ _⟩
 case rest =>
  obtain ⟨q,c,rfl,hbq,hqnil,hbc⟩ := hcut
  have HQ := Lib.hid hbq
  have HBc := Lib.hid hbc
  clear hbq hbc hlong hshort HB HNn
  go_wp2_with fail
  go_loopw [6,7] (fun o i wr => ∃ k : Nat,k ≤ 64 ∧ i = .int .i64 k ∧ Own wc.heap.size wr o (bytesOf k (padAt (byte X) v)) ∧ Below wc.heap.size wc wr) (fun _ i _ => 64 - (intOf i).toNat)
  case atStart => exact ⟨0,by decide,rfl,Own.new wc,below1 _ _⟩
  case round =>
   obtain ⟨k,hk,rfl,ho,hbr⟩ := hrel
   have HO := Lib.hid ho
   have HBr := Lib.hid hbr
   clear ho hbr
   by_cases hlt : k < 64
   · have hf := byte_lt X k
     have hpk : byte X k ^^^ v < 256 := Nat.xor_lt_two_pow (n := 8) hf hv
     have hx := u8_xor_nat (byte X k) v hf hv
     have hol : (bytesOf k (padAt (byte X) v)).length = k := bytesOf_length _ _
     have HL := Lib.hid (bytesOf_succ k (padAt (byte X) v))
     obtain ⟨L,hL⟩ : ∃ L,L = bytesOf k (padAt (byte X) v) := ⟨_,rfl⟩
     rw [← hL] at HO hol HL
     have hL64 : L.length ≤ 64 := by omega
     clear hL hol
     by_cases hin : k < X.length
     · obtain ⟨b',off,rfl,-,hc⟩ := (HQ.out.keep HBr.out) (by omega)
       have c0 := hc k hin
       rw [← MacT.byte_at X k hin] at c0
       clear hc
       obtain ⟨ch,hch⟩ : ∃ ch,ch = UInt8.ofNat (byte X k ^^^ v) := ⟨_,rfl⟩
       have HC3 := Lib.hid (show ((byte X k ^^^ v : Nat) : Int) = (ch.toNat : Int) by rw [hch,UInt8.toNat_ofNat',Nat.mod_eq_of_lt hpk])
       have HP2 := Lib.hid (show L ++ [UInt8.ofNat (padAt (byte X) v k)] = L ++ [ch] by rw [hch]; rfl)
       clear hch
       go_wp2_with (with_reducible refine wpList_append_bs (w0 := wc) rfl (.tmp 28) (.tmp 32) rfl u6 L rfl (HO.out.al _) (HBr.out.alloc HBr.out.size _) (some ⟨wr.heap.size,0,none⟩) [ch] 1 1 rfl rfl (lit1_bs wr _ _ HC3.out) ?c2 ?c1 (L ++ [ch]) rfl ?_)
       case c2 => exact fun h => by cases h
       case c1 => omega
       intro v8 w8 ho8 hb8
       have HO8 := Lib.hid ho8
       clear ho8 c0 hx
       go_wp2_with fail
       go_roundw
       case rel => exact ⟨k + 1,by omega,by go_num,by rw [HL.out,HP2.out]; exact HO8.out,hb8⟩
       case measure => simp [intOf]; omega
     · have hz0 : byte X k = 0 := byte_over X k (by omega)
       rw [hz0] at hx
       have hx' : bits .xor .u8 0 (v : Int) = ((0 ^^^ v : Nat) : Int) := hx
       have hp2 : UInt8.ofNat (byte X k ^^^ v) = UInt8.ofNat (0 ^^^ v) := by rw [hz0]
       have HP2 := Lib.hid (show L ++ [UInt8.ofNat (padAt (byte X) v k)] = L ++ [UInt8.ofNat (0 ^^^ v)] by rw [← hp2]; rfl)
       have hpk2 : 0 ^^^ v < 256 := by rw [Nat.zero_xor]; exact hv
       clear hx hz0 hp2
       generalize hze : 0 ^^^ v = z at hx' hpk2 HP2
       clear hze
       go_wp2_with (with_reducible refine wpList_append_bs (w0 := wc) rfl (.tmp 28) (.tmp 32) rfl u6 L rfl (HO.out.al _) (HBr.out.alloc HBr.out.size _) (some ⟨wr.heap.size,0,none⟩) [UInt8.ofNat z] 1 1 rfl rfl (lit1_bs wr _ _ ?c3) ?c2 ?c1 (L ++ [UInt8.ofNat z]) rfl ?_)
       case c3 => rw [UInt8.toNat_ofNat',Nat.mod_eq_of_lt hpk2]
       case c2 => exact fun h => by cases h
       case c1 => omega
       intro v8 w8 ho8 hb8
       have HO8 := Lib.hid ho8
       clear ho8 hx'
       go_wp2_with fail
       go_roundw
       case rel => exact ⟨k + 1,by omega,by go_num,by rw [HL.out,HP2.out]; exact HO8.out,hb8⟩
       case measure => simp [intOf]; omega
   · have hk64 : k = 64 := by omega
     subst hk64
     go_wp2_with fail
     go_ret
     exact ⟨u6,rfl,own_less HO.out HBc.out.size,HBc.out.trans (HBr.out.mono HBc.out.size)⟩
end Go.Proofs.YtpoinibckmbfcaaGreatDoor.RefM
namespace Go.Proofs.YtpoinibckmbfcaaGreatDoor.RefM
open Go.RowKit Kit ShaMath ShaT MacM MacT RefT
open Go.Sort (grow)
set_option linter.unusedVariables false
set_option maxRecDepth 100000
set_option maxHeartbeats 4000000 in
theorem rmac_any (p : Option Addr) (l : List UInt8) (n cap : Nat) (q : Option Addr) (m : List UInt8) (k cap2 : Nat) (w : World) (hn : l.length = n) (hb : Bs w p l) (hl : l.length ≤ 70368744170000) (hnil : p = none → cap = 0)
    (hk : m.length = k) (hbm : Bs w q m) (hl2 : m.length ≤ 70368744170000) (hnil2 : q = none → cap2 = 0) :
    Calls Tryz.prog 108 #[.slice p n cap,.slice q k cap2] w fun e w' => e = .returned (.agg (row .u8 32 (macAt l m))) ∧ Below w.heap.size w w' := by
  obtain ⟨hz3,hn3⟩ := zero_of_info info_32
  have HN := Lib.hid hn3
  clear hn3
  have HB := Lib.hid hb
  have HM := Lib.hid hbm
  have HKm := Lib.hid hk
  obtain ⟨I,hI⟩ : ∃ I,I = padL (keyAt l) 54 := ⟨_,rfl⟩
  obtain ⟨J,hJ⟩ : ∃ J,J = padL (keyAt l) 92 := ⟨_,rfl⟩
  have HIl := Lib.hid (show I.length = 64 by rw [hI]; exact padL_length _ _)
  have HJl := Lib.hid (show J.length = 64 by rw [hJ]; exact padL_length _ _)
  obtain ⟨M,hM⟩ : ∃ M,M = I ++ m := ⟨_,rfl⟩
  have HMl := Lib.hid (show M.length = 64 + m.length by rw [hM,List.length_append,HIl.out])
  obtain ⟨N2,hN2⟩ : ∃ N2,N2 = sumList M := ⟨_,rfl⟩
  have HN2 := Lib.hid (show N2.length = 32 by rw [hN2]; exact sumList_length _)
  obtain ⟨M2,hM2⟩ : ∃ M2,M2 = J ++ N2 := ⟨_,rfl⟩
  have HM2l := Lib.hid (show M2.length = 96 by rw [hM2,List.length_append,HJl.out,HN2.out])
  have HR := Lib.hid (show macAt l m = sumAt M2 by rw [hM2,hN2,hM,hI,hJ]; rfl)
  have F1 := Lib.hid (show ∀ W,Bs W p l → Calls Tryz.prog 136 #[.slice p n cap,.int .u8 54] W (Gave I W) from fun W h => by rw [hI]; exact flipped_any p l n cap 54 W hn h hl hnil (by decide))
  have F2 := Lib.hid (show ∀ W,Bs W p l → Calls Tryz.prog 136 #[.slice p n cap,.int .u8 92] W (Gave J W) from fun W h => by rw [hJ]; exact flipped_any p l n cap 92 W hn h hl hnil (by decide))
  have HMe := Lib.hid hM
  have HNe := Lib.hid hN2
  have HM2e := Lib.hid hM2
  rw [HR.out]
  clear hI hJ hM hN2 hM2 hn hb hk hbm
  go_enter Tryz.func108,Tryz.ntmps108
  go_wp2_with fail
  have hb0 := below1 w (.cells (row .u8 32 fun _ => 0) 89)
  have HA0 := Lib.hid (Arr.new (w := w) (k := .u8) (n := 32) (t := 89) (f := fun _ => 0))
  refine (F1.out _ (HB.out.keep hb0)).mono ?_
  rintro e w1 ⟨v1,rfl,ho1,hb1⟩
  obtain ⟨w0,hw0⟩ : ∃ w0,w0 = w.alloc (.cells (row .u8 32 fun _ => 0) 89) := ⟨_,rfl⟩
  rw [← hw0] at ho1 hb1 hb0 HA0
  have HO1 := Lib.hid ho1
  have HB1 := Lib.hid hb1
  have HB0 := Lib.hid hb0
  clear hw0 ho1 hb1 hb0
  go_wp2_with (with_reducible refine wpList_append_bs (w0 := w0) rfl (.tmp 7) (.tmp 8) rfl v1 I rfl HO1.out HB1.out q m k cap2 rfl HKm.out ((HM.out.keep HB0.out).keep HB1.out) hnil2 ?c1 M HMe.out ?_)
  case c1 => rw [HIl.out]; have := HKm.out; omega
  intro v2 w2 ho2 hb2
  obtain ⟨p2,c2,rfl,hbs2,-,-,hnil3⟩ := ho2.full
  have HB2 := Lib.hid hb2
  have CS := Lib.hid (rsum_n p2 M M.length c2 w2 rfl hbs2 (by rw [HMl.out]; omega) hnil3)
  clear ho2 hb2 hbs2 HO1 HB1
  go_wp2_with fail
  refine CS.out.mono ?_
  rintro e w3 ⟨rfl,hb3⟩
  have HB3 := Lib.hid (HB2.out.trans (hb3.mono HB2.out.size))
  clear hb3 CS HB2
  go_upto_region 2 with (with_reducible refine wpList_store_arr rfl 89 (.tmp 5) (.tmp 10) rfl w3.heap.size .u8 32 (sumAt M) rfl rfl 89 _ Arr.new HN ?_)
  go_simp
  have hb4 : Below w3.heap.size w3 ((w3.alloc (.cells (row .u8 32 fun _ => 0) 89)).setRow w3.heap.size (row .u8 32 (sumAt M))) := below_setRow (below1 _ _) (Nat.le_refl _) _
  have hA4 : Arr ((w3.alloc (.cells (row .u8 32 fun _ => 0) 89)).setRow w3.heap.size (row .u8 32 (sumAt M))) w3.heap.size .u8 32 89 (sumAt M) := Arr.new.setRow _
  generalize World.setRow _ _ _ = w4 at hb4 hA4 ⊢
  generalize w3.heap.size = g5 at hA4 ⊢
  have hb04 := HB3.out.trans (hb4.mono HB3.out.size)
  have HB4 := Lib.hid ((HB0.out.trans (hb04.mono HB0.out.size)).drew)
  have HZ4 := Lib.hid ((HA0.out.keep hb04 HA0.out.lt).drew)
  have HS4 := Lib.hid hA4.drew
  have HP4 := Lib.hid (HB.out.keep HB4.out)
  clear hb4 hA4 hb04 HB3 HA0
  refine wp_region_any (by kernel_rfl) ?_
  change wpAny _ _ _ _ _ _ _ (World.drew _)
  refine wpAny_ready (rs := [0,2]) (by kernel_rfl) (by simp) ?_
  refine AllReady.cons rfl (fun K hK => ?_) ?_
  · go_simp
    refine hK _ _ ?_
    clear hK K
    refine wpAny_ready (rs := [1,2]) (by kernel_rfl) (by simp) ?_
    refine AllReady.cons rfl (fun K hK => ?_) ?_
    · rw [if_pos (by rfl)]
      go_simp
      refine (F2.out _ HP4.out).mono ?_
      rintro e w5 ⟨v5,rfl,ho5,hb5⟩
      have HO5 := Lib.hid ho5
      have HB5 := Lib.hid hb5
      clear ho5 hb5
      refine hK _ _ ?_
      clear hK K
      refine wpAny_ready (rs := [2]) (by kernel_rfl) (by simp) ?_
      refine AllReady.cons rfl (fun K hK => ?_) ?_
      · go_simp
        refine hK _ _ ?_
        clear hK K
        refine wpAny_ready (rs := [3]) (by kernel_rfl) (by simp) ?_
        refine AllReady.cons rfl (fun K hK => ?_) ?_
        · refine step_append_bs (w0 := _) rfl (.tmp 12) (.tmp 13) rfl v5 J rfl HO5.out HB5.out (some ⟨g5,0,none⟩) N2 32 32 rfl HN2.out ?c3 ?c2 ?c1 M2 HM2e.out ?_
          case c3 => rw [HNe.out]; exact (arr_bs HS4.out (sumAt_lt M)).keep HB5.out
          case c2 => exact fun h => by cases h
          case c1 => rw [HJl.out]; omega
          intro v6 w6 ho6 hb6
          obtain ⟨p6,c6,rfl,hbs6,-,-,hnil6⟩ := ho6.full
          have HS6 := Lib.hid hbs6
          have HB6 := Lib.hid hb6
          clear ho6 hb6 hbs6
          refine hK _ _ ?_
          clear hK K
          refine wpAny_ready (rs := [4]) (by kernel_rfl) (by simp) ?_
          refine AllReady.cons rfl (fun K hK => ?_) ?_
          · rw [if_pos (by rfl)]
            go_simp
            refine (rsum_n p6 M2 M2.length c6 _ rfl HS6.out (by rw [HM2l.out]; decide) hnil6).mono ?_
            rintro e w7 ⟨rfl,hb7⟩
            have HB7 := Lib.hid (HB6.out.trans (hb7.mono HB6.out.size))
            clear hb7
            refine hK _ _ ?_
            clear hK K
            refine wpAny_ready (rs := [5]) (by kernel_rfl) (by simp) ?_
            refine AllReady.cons rfl (fun K hK => ?_) ?_
            · with_reducible refine step_store_arr rfl rfl 89 (.tmp 4) (.tmp 15) rfl w.heap.size .u8 32 (sumAt M2) rfl rfl 89 _ (HZ4.out.keep HB7.out HZ4.out.lt) HN ?_
              refine hK _ _ ?_
              clear hK K
              refine wpAny_done (by kernel_rfl) ?_ _
              (go_wp2_with fail; exact bodyPost_ret (results_arr rfl _ _ w.heap.size 89 .u8 32 (sumAt M2) _ rfl ((HZ4.out.keep HB7.out HZ4.out.lt).setRow _) Tryz.underlying89 rfl HN) rfl ⟨rfl,below_setRow (HB4.out.trans (HB7.out.mono HB4.out.size)) (Nat.le_refl _) _⟩)
            exact AllReady.nil
          exact AllReady.nil
        exact AllReady.nil
      exact AllReady.nil
    refine AllReady.cons rfl (fun K hK => ?_) ?_
    · go_simp
      refine hK _ _ ?_
      clear hK K
      refine wpAny_ready (rs := [1]) (by kernel_rfl) (by simp) ?_
      refine AllReady.cons rfl (fun K hK => ?_) ?_
      · rw [if_pos (by rfl)]
        go_simp
        refine (F2.out _ HP4.out).mono ?_
        rintro e w5 ⟨v5,rfl,ho5,hb5⟩
        have HO5 := Lib.hid ho5
        have HB5 := Lib.hid hb5
        clear ho5 hb5
        refine hK _ _ ?_
        clear hK K
        refine wpAny_ready (rs := [3]) (by kernel_rfl) (by simp) ?_
        refine AllReady.cons rfl (fun K hK => ?_) ?_
        · refine step_append_bs (w0 := _) rfl (.tmp 12) (.tmp 13) rfl v5 J rfl HO5.out HB5.out (some ⟨g5,0,none⟩) N2 32 32 rfl HN2.out ?c3 ?c2 ?c1 M2 HM2e.out ?_
          case c3 => rw [HNe.out]; exact (arr_bs HS4.out (sumAt_lt M)).keep HB5.out
          case c2 => exact fun h => by cases h
          case c1 => rw [HJl.out]; omega
          intro v6 w6 ho6 hb6
          obtain ⟨p6,c6,rfl,hbs6,-,-,hnil6⟩ := ho6.full
          have HS6 := Lib.hid hbs6
          have HB6 := Lib.hid hb6
          clear ho6 hb6 hbs6
          refine hK _ _ ?_
          clear hK K
          refine wpAny_ready (rs := [4]) (by kernel_rfl) (by simp) ?_
          refine AllReady.cons rfl (fun K hK => ?_) ?_
          · rw [if_pos (by rfl)]
            go_simp
            refine (rsum_n p6 M2 M2.length c6 _ rfl HS6.out (by rw [HM2l.out]; decide) hnil6).mono ?_
            rintro e w7 ⟨rfl,hb7⟩
            have HB7 := Lib.hid (HB6.out.trans (hb7.mono HB6.out.size))
            clear hb7
            refine hK _ _ ?_
            clear hK K
            refine wpAny_ready (rs := [5]) (by kernel_rfl) (by simp) ?_
            refine AllReady.cons rfl (fun K hK => ?_) ?_
            · with_reducible refine step_store_arr rfl rfl 89 (.tmp 4) (.tmp 15) rfl w.heap.size .u8 32 (sumAt M2) rfl rfl 89 _ (HZ4.out.keep HB7.out HZ4.out.lt) HN ?_
              refine hK _ _ ?_
              clear hK K
              refine wpAny_done (by kernel_rfl) ?_ _
              (go_wp2_with fail; exact bodyPost_ret (results_arr rfl _ _ w.heap.size 89 .u8 32 (sumAt M2) _ rfl ((HZ4.out.keep HB7.out HZ4.out.lt).setRow _) Tryz.underlying89 rfl HN) rfl ⟨rfl,below_setRow (HB4.out.trans (HB7.out.mono HB4.out.size)) (Nat.le_refl _) _⟩)
            exact AllReady.nil
          exact AllReady.nil
        exact AllReady.nil
      exact AllReady.nil
    exact AllReady.nil
  refine AllReady.cons rfl (fun K hK => ?_) ?_
  · go_simp
    refine hK _ _ ?_
    clear hK K
    refine wpAny_ready (rs := [0]) (by kernel_rfl) (by simp) ?_
    refine AllReady.cons rfl (fun K hK => ?_) ?_
    · go_simp
      refine hK _ _ ?_
      clear hK K
      refine wpAny_ready (rs := [1]) (by kernel_rfl) (by simp) ?_
      refine AllReady.cons rfl (fun K hK => ?_) ?_
      · rw [if_pos (by rfl)]
        go_simp
        refine (F2.out _ HP4.out).mono ?_
        rintro e w5 ⟨v5,rfl,ho5,hb5⟩
        have HO5 := Lib.hid ho5
        have HB5 := Lib.hid hb5
        clear ho5 hb5
        refine hK _ _ ?_
        clear hK K
        refine wpAny_ready (rs := [3]) (by kernel_rfl) (by simp) ?_
        refine AllReady.cons rfl (fun K hK => ?_) ?_
        · refine step_append_bs (w0 := _) rfl (.tmp 12) (.tmp 13) rfl v5 J rfl HO5.out HB5.out (some ⟨g5,0,none⟩) N2 32 32 rfl HN2.out ?c3 ?c2 ?c1 M2 HM2e.out ?_
          case c3 => rw [HNe.out]; exact (arr_bs HS4.out (sumAt_lt M)).keep HB5.out
          case c2 => exact fun h => by cases h
          case c1 => rw [HJl.out]; omega
          intro v6 w6 ho6 hb6
          obtain ⟨p6,c6,rfl,hbs6,-,-,hnil6⟩ := ho6.full
          have HS6 := Lib.hid hbs6
          have HB6 := Lib.hid hb6
          clear ho6 hb6 hbs6
          refine hK _ _ ?_
          clear hK K
          refine wpAny_ready (rs := [4]) (by kernel_rfl) (by simp) ?_
          refine AllReady.cons rfl (fun K hK => ?_) ?_
          · rw [if_pos (by rfl)]
            go_simp
            refine (rsum_n p6 M2 M2.length c6 _ rfl HS6.out (by rw [HM2l.out]; decide) hnil6).mono ?_
            rintro e w7 ⟨rfl,hb7⟩
            have HB7 := Lib.hid (HB6.out.trans (hb7.mono HB6.out.size))
            clear hb7
            refine hK _ _ ?_
            clear hK K
            refine wpAny_ready (rs := [5]) (by kernel_rfl) (by simp) ?_
            refine AllReady.cons rfl (fun K hK => ?_) ?_
            · with_reducible refine step_store_arr rfl rfl 89 (.tmp 4) (.tmp 15) rfl w.heap.size .u8 32 (sumAt M2) rfl rfl 89 _ (HZ4.out.keep HB7.out HZ4.out.lt) HN ?_
              refine hK _ _ ?_
              clear hK K
              refine wpAny_done (by kernel_rfl) ?_ _
              (go_wp2_with fail; exact bodyPost_ret (results_arr rfl _ _ w.heap.size 89 .u8 32 (sumAt M2) _ rfl ((HZ4.out.keep HB7.out HZ4.out.lt).setRow _) Tryz.underlying89 rfl HN) rfl ⟨rfl,below_setRow (HB4.out.trans (HB7.out.mono HB4.out.size)) (Nat.le_refl _) _⟩)
            exact AllReady.nil
          exact AllReady.nil
        exact AllReady.nil
      exact AllReady.nil
    exact AllReady.nil
  exact AllReady.nil
end Go.Proofs.YtpoinibckmbfcaaGreatDoor.RefM
namespace Go.Proofs.YtpoinibckmbfcaaGreatDoor.RefM
open Go.RowKit Kit ShaMath ShaT MacM MacT RefT
open Go.Sort (grow)
set_option linter.unusedVariables false
set_option maxRecDepth 100000
structure DRel (w : World) (g7 : Nat) (M : Nat → Nat) (wr : World) : Prop where
 b : Below w.heap.size w wr
 z : Arr wr w.heap.size .u8 32 89 (fun _ => 0)
 m : Arr wr g7 .u8 32 89 M
 lt : w.heap.size < g7
theorem DRel.keep {w : World} {g7 : Nat} {M : Nat → Nat} {wr w' : World} (h : DRel w g7 M wr) (hb : Below wr.heap.size wr w') : DRel w g7 M w' :=
 ⟨h.b.trans (hb.mono h.b.size),h.z.keep hb h.z.lt,h.m.keep hb h.m.lt,h.lt⟩
theorem DRel.congr {w : World} {g7 : Nat} {M M' : Nat → Nat} {wr : World} (h : DRel w g7 M wr) (e : ∀ j,j < 32 → M j = M' j) : DRel w g7 M' wr := ⟨h.b,h.z,h.m.congr e,h.lt⟩
structure ERel (w : World) (g7 g10 : Nat) (M U : Nat → Nat) (wr : World) : Prop where
 o : DRel w g7 M wr
 u : Arr wr g10 .u8 32 89 U
 lt : g7 < g10
theorem ERel.drewN {w : World} {g7 g10 : Nat} {M U : Nat → Nat} {wr : World} (h : ERel w g7 g10 M U wr) (q : Nat) : ERel w g7 g10 M U (wr.drewN q) :=
 ⟨⟨h.o.b.trans ⟨rfl,rfl,rfl,Nat.le_refl _,fun _ _ => rfl⟩,h.o.z.drewN q,h.o.m.drewN q,h.o.lt⟩,h.u.drewN q,h.lt⟩
theorem ERel.set {w : World} {g7 g10 : Nat} {M U : Nat → Nat} {wr : World} (h : ERel w g7 g10 M U wr) (j v : Nat) : ERel w g7 g10 (upd M j v) U (wr.setCell ⟨g7,j,none⟩ (.int .u8 (v : Int))) := by
 have h1 := h.lt
 have h2 := h.o.lt
 exact ⟨⟨h.o.b.setCell (by simp; omega) _,h.o.z.other _ _ (by simp; omega),h.o.m.set _ _,h2⟩,h.u.other _ _ (by simp; omega),h1⟩
set_option maxHeartbeats 4000000 in
theorem rderive_in (p : Option Addr) (l : List UInt8) (n cap : Nat) (q : Option Addr) (s : List UInt8) (m cap2 : Nat) (r : Nat) (w : World) (h0 : 1 ≤ r) (h1 : r ≤ 64) (hn : l.length = n) (hb : Bs w p l) (hl : l.length ≤ 70368744170000) (hnil : p = none → cap = 0)
    (hm : s.length = m) (hbs : Bs w q s) (hl2 : s.length ≤ 70368744160000) (hnil2 : q = none → cap2 = 0) :
    Calls Tryz.prog 71 #[.slice p n cap,.slice q m cap2,.int .i64 (r : Int)] w fun e w' => e = .returned (.agg (row .u8 32 (derAt l s r))) ∧ Below w.heap.size w w' := by
  obtain ⟨hz3,hn3⟩ := zero_of_info info_32
  have HN := Lib.hid hn3
  clear hn3
  have hbd := MacT.build_32
  obtain ⟨Ky,hKy⟩ : ∃ Ky,Ky = keyAt l := ⟨_,rfl⟩
  have HD := Lib.hid (show derAt l s r = mixAt Ky s r by rw [derAt_in (by omega),hKy]; rfl)
  have HB := Lib.hid hb
  have HM := Lib.hid hbs
  have HMm := Lib.hid hm
  have hm2 : m ≤ 70368744160000 := by omega
  have CM := Lib.hid (show ∀ W (k : Nat) (pm : Option Addr) (x : List UInt8) (c : Nat),Bs W p l → Bs W pm x → x = msgAt Ky s k → x.length ≤ 70368744170000 → (pm = none → c = 0) → Calls Tryz.prog 108 #[.slice p n cap,.slice pm x.length c] W (fun e w' => e = .returned (.agg (row .u8 32 (uAt Ky s k))) ∧ Below W.heap.size W w') from fun W k pm x c a1 a2 a3 a4 a5 => by
   have := rmac_any p l n cap pm x x.length c W hn a1 hl hnil rfl a2 a4 a5
   rw [show macAt l x = uAt Ky s k by rw [a3,hKy]; rfl] at this
   exact this)
  rw [HD.out]
  obtain ⟨F,hF⟩ : ∃ F,F = firstMsg s := ⟨_,rfl⟩
  have hFl : F.length = m + 4 := by rw [hF]; simp [firstMsg]; omega
  have HF := Lib.hid (show F = s ++ [0,0,0,1] from hF)
  have HF0 := Lib.hid (show F = msgAt Ky s 0 from hF)
  have HFl := Lib.hid hFl
  have d1 : decide ((r : Int) < 1) = false := decide_eq_false (by omega)
  have d2 : decide (64 < (r : Int)) = false := decide_eq_false (by omega)
  clear hn hm hb hbs hKy hF hFl
  go_enter Tryz.func71,Tryz.ntmps71
  go_upto_region 2 with (with_reducible refine wpList_store_arr rfl 89 (.tmp 7) (.tmp 12) rfl (w.heap.size + 1) .u8 32 (fun _ => 0) rfl rfl 89 _ Arr.new1 HN ?_)
  go_simp
  have hD0 : DRel w (w.heap.size + 1) (fun _ => 0) (((w.alloc (.cells (row .u8 32 fun _ => 0) 89)).alloc (.cells (row .u8 32 fun _ => 0) 89)).setRow (w.heap.size + 1) (row .u8 32 fun _ => 0)) :=
   ⟨below_setRow (below2 _ _ _) (by omega) _,(Arr.new.al _).setRow_ne _ (by omega),Arr.new1.setRow _,by omega⟩
  generalize World.setRow _ _ _ = w1 at hD0 ⊢
  have HD0 := Lib.hid (show DRel w (w.heap.size + 1) (mixAt Ky s 0) w1 from hD0)
  clear hD0
  generalize w.heap.size + 1 = g7 at HD0 ⊢
  go_wp2_with (with_reducible refine wpList_append_bs (w0 := w1) rfl (.tmp 20) (.tmp 21) rfl (.slice (some ⟨w1.heap.size,0,none⟩) 0 0) [] rfl (Own.new w1) (below1 _ _) q s m cap2 rfl HMm.out ((HM.out.keep HD0.out.b).keep (below1 _ _)) hnil2 ?c1 s rfl ?_)
  case c1 => simp; omega
  intro v2 w2 ho2 hb2
  have HO2 := Lib.hid ho2
  have HB2 := Lib.hid hb2
  clear ho2 hb2
  go_wp2_with (with_reducible refine wpList_append_bs (w0 := w1) rfl (.tmp 22) (.tmp 23) rfl v2 s rfl (HO2.out.al _) (HB2.out.alloc HB2.out.size _) (some ⟨w2.heap.size,0,none⟩) [0,0,0,1] 4 4 rfl rfl (macRounds.lit4_bs w2) ?c2 ?c1 F HF.out ?_)
  case c2 => exact fun h => by cases h
  case c1 => have := HMm.out; omega
  intro v3 w3 ho3 hb3
  obtain ⟨pf,cf,rfl,hbf,-,-,hfnil⟩ := ho3.full
  have HD3 := Lib.hid (HD0.out.keep hb3)
  have HF3 := Lib.hid hbf
  clear ho3 hb3 hbf HO2 HB2 HD0
  go_wp2_with fail
  go_loopw [8,9] (fun v i wr => ∃ (k : Nat) (pm : Option Addr) (x : List UInt8) (c : Nat),k ≤ r ∧ i = .int .i64 k ∧ v = .slice pm x.length c ∧ x = msgAt Ky s k ∧ x.length ≤ 70368744170000 ∧ Bs wr pm x ∧ (pm = none → c = 0) ∧ DRel w g7 (mixAt Ky s k) wr) (fun _ i _ => r - (intOf i).toNat)
  case atStart => exact ⟨0,pf,F,cf,by omega,rfl,rfl,HF0.out,by rw [HFl.out]; omega,HF3.out,hfnil,HD3.out⟩
  case round =>
   obtain ⟨k,pm,x,c,hk,rfl,rfl,hx,hxl,hbx,hxnil,hR⟩ := hrel
   have HX := Lib.hid hx
   have HBx := Lib.hid hbx
   have HR := Lib.hid hR
   clear hx hbx hR
   by_cases hlt : k < r
   · obtain ⟨M,hMe⟩ : ∃ M,M = mixAt Ky s k := ⟨_,rfl⟩
     obtain ⟨U,hUe⟩ : ∃ U,U = uAt Ky s k := ⟨_,rfl⟩
     have HML := Lib.hid (show ∀ j,M j < 256 by rw [hMe]; exact fun j => mixAt_lt Ky s j k)
     have HUL := Lib.hid (show ∀ j,U j < 256 by rw [hUe]; exact fun j => uAt_lt Ky s k j)
     have HMS := Lib.hid (show ∀ j,j < 32 → MacT.part M U 32 j = mixAt Ky s (k + 1) j by
      intro j hj
      rw [part_all _ _ _ hj,mixAt_succ,hMe,hUe])
     have HMU := Lib.hid (show bytesOf 32 U = msgAt Ky s (k + 1) by rw [msgAt_succ,hUe]; rfl)
     have CX := Lib.hid (show Calls Tryz.prog 108 #[.slice p n cap,.slice pm x.length c] wr (fun e w' => e = .returned (.agg (row .u8 32 U)) ∧ Below wr.heap.size wr w') by rw [hUe]; exact CM.out wr k pm x c (HB.out.keep HR.out.b) HBx.out HX.out hxl hxnil)
     rw [← hMe] at HR
     clear hMe hUe
     go_wp2_with fail
     refine CX.out.mono ?_
     rintro e w4 ⟨rfl,hb4⟩
     have HR4 := Lib.hid (HR.out.keep hb4)
     clear hb4 CX HR HBx HX
     go_upto_region 9 with (with_reducible refine wpList_store_arr rfl 89 (.tmp 10) (.tmp 32) rfl w4.heap.size .u8 32 U rfl rfl 89 _ Arr.new HN ?_)
     go_simp
     have hb5 : Below w4.heap.size w4 ((w4.alloc (.cells (row .u8 32 fun _ => 0) 89)).setRow w4.heap.size (row .u8 32 U)) := below_setRow (below1 _ _) (Nat.le_refl _) _
     have hE : ERel w g7 w4.heap.size M U ((w4.alloc (.cells (row .u8 32 fun _ => 0) 89)).setRow w4.heap.size (row .u8 32 U)) := ⟨HR4.out.keep hb5,Arr.new.setRow _,HR4.out.m.lt⟩
     generalize World.setRow _ _ _ = w5 at hE ⊢
     generalize w4.heap.size = g10 at hE ⊢
     clear hb5
     have HE := Lib.hid hE
     clear hE HR4
     go_wp2_with fail
     go_loopw [11] (fun i wr => ∃ j : Nat,j ≤ 32 ∧ i = .int .i64 j ∧ ERel w g7 g10 (MacT.part M U j) U wr) (fun i _ => 32 - (intOf i).toNat)
     case atStart => exact ⟨0,by decide,rfl,⟨HE.out.o.congr (fun j _ => by unfold MacT.part; rw [if_neg (Nat.not_lt_zero j)]),HE.out.u,HE.out.lt⟩⟩
     case round =>
      obtain ⟨j,hj,rfl,hRj⟩ := hrel
      by_cases hjl : j < 32
      · have c7 := hRj.o.m.at_ j hjl
        rw [part_at] at c7
        have c10 := hRj.u.at_ j hjl
        have z7 := hRj.o.m.frz j
        have hx := u8_xor_nat (M j) (U j) (HML.out j) (HUL.out j)
        have hx1 := HML.out j
        have hx2 := HUL.out j
        have HRj := Lib.hid hRj
        clear hRj
        go_wp2_with fail
        refine wp_region_quiet_tail_lit 9 (by kernel_rfl) (by kernel_rfl) ?_
        simp only [List.take_succ_cons,List.take_zero,List.drop_succ_cons,List.drop_zero]
        repeat (go_big_quiet_step (fail))
        refine wpQuiet_nil ?_
        rintro _ ⟨nq,rfl⟩
        have HRq := Lib.hid (HRj.out.drewN nq)
        clear c7 c10 z7 HRj
        generalize wr.drewN nq = wq at HRq ⊢
        have c7 := HRq.out.o.m.at_ j hjl
        have z7 := HRq.out.o.m.frz j
        go_wp2_with fail
        go_roundw
        case rel =>
         have hs := HRq.out.set j (M j ^^^ U j)
         exact ⟨j + 1,by omega,by go_num,⟨hs.o.congr (fun q _ => part_next M U j q),hs.u,hs.lt⟩⟩
        case measure => simp [intOf]; omega
      · have HRj := Lib.hid (show DRel w g7 (mixAt Ky s (k + 1)) wr from hRj.o.congr (M' := mixAt Ky s (k + 1)) fun q hq => by rw [show j = 32 by omega]; exact HMS.out q hq)
        have HUj := Lib.hid hRj.u
        clear hRj
        go_wp2_with (with_reducible refine wpList_append_bs (w0 := wr) rfl (.tmp 46) (.tmp 47) rfl (.slice (some ⟨wr.heap.size,0,none⟩) 0 0) [] rfl (Own.new wr) (below1 _ _) (some ⟨g10,0,none⟩) (bytesOf 32 U) 32 32 rfl (bytesOf_length _ _) ((arr_bs HUj.out HUL.out).keep (below1 _ _)) ?c2 ?c1 (bytesOf 32 U) rfl ?_)
        case c2 => exact fun h => by cases h
        case c1 => simp
        intro v8 w8 ho8 hb8
        obtain ⟨pn,cn,rfl,hbn,-,-,hnn⟩ := ho8.full
        have HN8 := Lib.hid hbn
        have HR8 := Lib.hid (HRj.out.keep hb8)
        clear ho8 hb8 hbn
        go_wp2_with fail
        go_roundw
        case rel => exact ⟨k + 1,pn,bytesOf 32 U,cn,by omega,by go_num,rfl,HMU.out,by rw [bytesOf_length]; decide,HN8.out,hnn,HR8.out⟩
        case measure => simp [intOf]; omega
   · have hkr : k = r := by omega
     subst hkr
     have hM := HR.out.m
     have hZ := HR.out.z
     have hbw := HR.out.b
     clear HR HD
     go_wp2_with (first | (with_reducible refine wpList_load_arr rfl 89 (.tmp 7) rfl g7 rfl .u8 32 89 (mixAt Ky s k) hM _ Tryz.underlying89 rfl HN ?_) | (with_reducible refine wpList_store_arr rfl 89 (.tmp 6) (.tmp 49) rfl w.heap.size .u8 32 (mixAt Ky s k) rfl rfl 89 _ hZ HN ?_))
     exact bodyPost_ret (results_arr rfl _ _ w.heap.size 89 .u8 32 (mixAt Ky s k) _ rfl (hZ.setRow _) Tryz.underlying89 rfl HN) rfl ⟨rfl,below_setRow hbw (Nat.le_refl _) _⟩
end Go.Proofs.YtpoinibckmbfcaaGreatDoor.RefM
namespace Go.Proofs.YtpoinibckmbfcaaGreatDoor.RefM
open Go.RowKit Kit ShaMath ShaT MacM MacT HexMath NumMath
open Go.Sort (grow)
set_option linter.unusedVariables false
set_option maxRecDepth 100000
abbrev St := List (List UInt8) × List UInt8
def stepP (st : St) (c : UInt8) : St := if c = 58 then (st.1 ++ [st.2],[]) else (st.1,st.2 ++ [c])
def partsS (l : List UInt8) : St := l.foldl stepP ([],[])
theorem partsS_snoc (l : List UInt8) (c : UInt8) : partsS (l ++ [c]) = stepP (partsS l) c := by simp [partsS]
def joinP : List (List UInt8) → List UInt8 → List UInt8
  | [],t => t
  | a :: r,t => a ++ 58 :: joinP r t
theorem joinP_colon : ∀ (i : List (List UInt8)) (t : List UInt8),joinP (i ++ [t]) [] = joinP i t ++ [58]
  | [],t => by simp [joinP]
  | a :: r,t => by simp [joinP,joinP_colon r t]
theorem joinP_more : ∀ (i : List (List UInt8)) (t : List UInt8) (c : UInt8),joinP i (t ++ [c]) = joinP i t ++ [c]
  | [],t,c => by simp [joinP]
  | a :: r,t,c => by simp [joinP,joinP_more r t c]
structure Inv (st : St) (l : List UInt8) : Prop where
 j : joinP st.1 st.2 = l
 f : ∀ x ∈ st.1,¬ (58 : UInt8) ∈ x
 t : ¬ (58 : UInt8) ∈ st.2
theorem Inv.step {st : St} {l : List UInt8} (h : Inv st l) (c : UInt8) : Inv (stepP st c) (l ++ [c]) := by
 unfold stepP
 by_cases hc : c = 58
 · rw [if_pos hc]
   refine ⟨by rw [joinP_colon,h.j,hc],fun x hx => ?_,by simp⟩
   rcases List.mem_append.1 hx with hx | hx
   · exact h.f x hx
   · rw [List.mem_singleton.1 hx]; exact h.t
 · rw [if_neg hc]
   refine ⟨by rw [joinP_more,h.j],h.f,fun hx => ?_⟩
   rcases List.mem_append.1 hx with hx | hx
   · exact h.t hx
   · exact hc (List.mem_singleton.1 hx).symm
theorem inv_fold : ∀ (l : List UInt8) (st : St) (pre : List UInt8),Inv st pre → Inv (l.foldl stepP st) (pre ++ l)
  | [],st,pre,h => by simpa using h
  | c :: r,st,pre,h => by
    have := inv_fold r (stepP st c) (pre ++ [c]) (h.step c)
    simpa using this
theorem inv_parts (l : List UInt8) : Inv (partsS l) l := by
 have := inv_fold l ([],[]) [] ⟨rfl,by simp,by simp⟩
 simpa [partsS] using this
theorem join_len : ∀ (i : List (List UInt8)) (t : List UInt8),i.length + t.length ≤ (joinP i t).length
  | [],t => by simp [joinP]
  | a :: r,t => by
    have := join_len r t
    simp [joinP]
    omega
theorem parts_len (l : List UInt8) : (partsS l).1.length + (partsS l).2.length ≤ l.length := by
 have h := join_len (partsS l).1 (partsS l).2
 rw [(inv_parts l).j] at h
 exact h
theorem parts_three (l : List UInt8) (a b : List UInt8) (h : (partsS l).1 = [a,b]) : recOf l = recOf3 a b (partsS l).2 := by
 have hi := inv_parts l
 have hj := hi.j
 rw [h] at hj
 have ha := hi.f a (by rw [h]; simp)
 have hb := hi.f b (by rw [h]; simp)
 generalize (partsS l).2 = t at hj ⊢
 apply recOf_three
 rw [← hj]
 exact three_join a b _ ha hb
theorem parts_other (l : List UInt8) (h : (partsS l).1.length ≠ 2) : recOf l = none := by
 have hi := inv_parts l
 have hj := hi.j
 have hf := hi.f
 have ht := hi.t
 generalize (partsS l).2 = t at hj ht
 match hp : (partsS l).1 with
 | [] =>
   rw [hp] at hj
   apply recOf_no
   unfold three
   rw [← hj]
   show (match cutL t with | none => none | some (a,r) => match cutL r with | none => none | some (b,c) => some (a,b,c)) = none
   rw [cutL_free t ht]
 | [a] =>
   rw [hp] at hj hf
   apply recOf_no
   unfold three
   rw [← hj]
   show (match cutL (a ++ 58 :: t) with | none => none | some (a,r) => match cutL r with | none => none | some (b,c) => some (a,b,c)) = none
   rw [cutL_join a t (hf a (by simp))]
   simp only
   rw [cutL_free t ht]
 | [a,b] => rw [hp] at h; exact absurd rfl h
 | a :: b :: c :: r =>
   rw [hp] at hj hf
   have h3 : three l = some (a,b,joinP (c :: r) t) := by
    rw [← hj]
    exact three_join a b _ (hf a (by simp)) (hf b (by simp))
   rw [recOf_three h3]
   apply recOf3_c
   apply unhex_colon
   simp [joinP]
def strs (st : St) : List Value := (st.1 ++ [st.2]).map fun x => Value.string ⟨x.toArray⟩
theorem strs_length (st : St) : (strs st).length = st.1.length + 1 := by simp [strs]
theorem strs_colon (st : St) : strs (stepP st 58) = strs st ++ [.string ⟨#[]⟩] := by
 unfold strs stepP
 rw [if_pos rfl]
 simp
theorem strs_more (st : St) (c : UInt8) (hc : c ≠ 58) : strs (stepP st c) = (strs st).set st.1.length (.string (⟨st.2.toArray⟩ ++ ⟨#[c]⟩)) := by
 unfold strs stepP
 rw [if_neg hc]
 have e : (⟨(st.2 ++ [c]).toArray⟩ : ByteArray) = ⟨st.2.toArray⟩ ++ ⟨#[c]⟩ := by
  apply ByteArray.ext
  apply Array.toList_inj.1
  simp
 rw [← e]
 simp [List.set_append_right]
theorem strs_last (st : St) : (strs st)[st.1.length]? = some (.string ⟨st.2.toArray⟩) := by
 unfold strs
 simp
theorem strs_at (st : St) (j : Nat) (x : List UInt8) (h : st.1[j]? = some x) : (strs st)[j]? = some (.string ⟨x.toArray⟩) := by
 have hj : j < st.1.length := by
  rcases Nat.lt_or_ge j st.1.length with h' | h'
  · exact h'
  · rw [List.getElem?_eq_none h'] at h; cases h
 unfold strs
 rw [List.getElem?_map,List.getElem?_append_left hj,h]
 rfl
theorem str_parts : (Tryz.prog.info? 9).map (fun i => (i.zero,i.size,i.bytes)) = some (some (.string ByteArray.empty),1,16) := by kernel_rfl
def GaveS (st : St) (w : World) (e : Ending) (w' : World) : Prop :=
 ∃ g c,e = .returned (.slice (some ⟨g,0,none⟩) (st.1.length + 1) c) ∧ w'.ownsRow w.heap.size 9 1 (.slice (some ⟨g,0,none⟩) (st.1.length + 1) c) (st.1.length + 1) (strs st) ∧ Below w.heap.size w w'
set_option maxHeartbeats 2000000 in
theorem parts_any (s : ByteArray) (w : World) (hz : s.size ≤ 1048576) :
  Calls Tryz.prog 120 #[.string s] w (GaveS (partsS s.data.toList) w) := by
 obtain ⟨i0,hi0,hz0,hz1,hzb⟩ := info_parts str_parts
 have hs : s.data.toList.length = s.size := by simp
 have HS := Lib.hid hs
 have hlits := World.ownsRow_lit (base := w.heap.size) (e := 9) (size := 1) w #[.string ⟨#[]⟩] 1 (Nat.le_refl _) (by simp [maxLen]) rfl
 have HL0 := Lib.hid hlits
 clear hs hlits
 go_enter Tryz.func120,Tryz.ntmps120
 go_wp2_with fail
 go_loopw [3,4] (fun v i wr => ∃ k : Nat,k ≤ s.size ∧ i = .int .i64 k ∧ wr.ownsRow w.heap.size 9 1 v ((partsS (s.data.toList.take k)).1.length + 1) (strs (partsS (s.data.toList.take k))) ∧ Below w.heap.size w wr) (fun _ i _ => s.size - (intOf i).toNat)
 case atStart => exact ⟨0,Nat.zero_le _,rfl,HL0.out,below1 _ _⟩
 case round =>
  obtain ⟨k,hk,rfl,ho,hbr⟩ := hrel
  obtain ⟨g,c,rfl,hg,hgl⟩ := ho.form (by omega)
  obtain ⟨st,hst⟩ : ∃ st,st = partsS (s.data.toList.take k) := ⟨_,rfl⟩
  rw [← hst] at ho ⊢
  have hlen : st.1.length + st.2.length ≤ k := by
   rw [hst]
   have := parts_len (s.data.toList.take k)
   rw [List.length_take] at this
   omega
  by_cases hlt : k < s.size
  · have hlt' : k < s.data.toList.length := by rw [HS.out]; exact hlt
    obtain ⟨ch,hch⟩ : ∃ ch,ch = s.data.toList[k] := ⟨_,rfl⟩
    have HST := Lib.hid (show partsS (s.data.toList.take (k + 1)) = stepP st ch by rw [List.take_succ_eq_append_getElem hlt',partsS_snoc,hst,hch])
    have i1 := fun W => idx_at s k ch (by rw [List.getElem?_eq_getElem hlt',hch]) (k : Int) rfl W
    have h256 := UInt8.toNat_lt ch
    obtain ⟨N,hN⟩ : ∃ N,N = st.1.length + 1 := ⟨_,rfl⟩
    have HNe := Lib.hid hN
    have hN1 : 1 ≤ N := by omega
    have hNb : N ≤ 1048577 := by omega
    rw [← hN] at ho ⊢
    have HO := Lib.hid ho
    have HBr := Lib.hid hbr
    by_cases h58 : ch = 58
    · have q58 : ((ch.toNat : Int) == 58) = true := by rw [h58]; rfl
      have HX := Lib.hid (show strs (stepP st ch) = strs st ++ [.string ⟨#[]⟩] by rw [h58]; exact strs_colon st)
      have HXl := Lib.hid (show (stepP st ch).1.length + 1 = N + 1 by rw [h58,hN]; simp [stepP])
      clear hst hch hN ho hbr h58 hlen
      go_wp2_with (at_builtin; refine wpList_append_own _ rfl (.tmp 16) (.tmp 17) 22 rfl w.heap.size 9 i0 (.string ByteArray.empty) 1 16 Tryz.underlying22 hi0 hz0 hz1 hzb rfl (by decide) (.slice (some ⟨g,0,none⟩) N c) N (strs st) rfl (HO.out.alloc _) ⟨wr.heap.size,0,none⟩ 1 1 [.string ⟨#[]⟩] rfl rfl (one_news _ _ _) (by simp [Value.oneCell']) (by unfold maxLen; omega) (by omega) (by have := HBr.out.size; simp; omega) ?_; intro v' w1 hown1 hgrow _)
      have HO1 := Lib.hid hown1
      have HB1 := Lib.hid ((HBr.out.alloc HBr.out.size _).grown hgrow (by have := HBr.out.size; simp; omega) (by intro j hj; simp [Value.ownBlock] at hj; omega))
      clear hown1 hgrow
      go_wp2_with fail
      go_roundw
      case rel => exact ⟨k + 1,by omega,by go_num,by rw [HST.out,HX.out,HXl.out]; exact HO1.out,HB1.out⟩
      case measure => simp [intOf]; omega
    · have q58 : ((ch.toNat : Int) == 58) = false := by
       rw [beq_eq_false_iff_ne]
       intro e
       apply h58
       apply UInt8.toNat_inj.1
       show ch.toNat = 58
       omega
      obtain ⟨LS,hLS⟩ : ∃ LS : ByteArray,LS = ⟨st.2.toArray⟩ := ⟨_,rfl⟩
      obtain ⟨CS,hCS⟩ : ∃ CS : ByteArray,CS = ⟨#[ch]⟩ := ⟨_,rfl⟩
      have hLSz : LS.size ≤ 1048576 := by rw [hLS,size_bytes]; omega
      have hCSz : CS.size = 1 := by rw [hCS]; rfl
      have hCSb : CS.size ≤ 1 := by omega
      have HX := Lib.hid (show strs (stepP st ch) = (strs st).set (N - 1) (.string (LS ++ CS)) by rw [strs_more st ch h58,hLS,hCS,hN,Nat.add_sub_cancel])
      have HXl := Lib.hid (show (stepP st ch).1.length + 1 = N by rw [hN]; unfold stepP; rw [if_neg h58])
      have c0 : wr.cell? ⟨g,N - 1,none⟩ = some (.string LS) := by rw [ho.cellAt (N - 1) (by omega),hN,Nat.add_sub_cancel,strs_last,hLS]
      have z0 := ho.frozenAt (N - 1)
      have n1 : ((N : Int) - 1).toNat = N - 1 := by omega
      have n2 : (0 : Int) ≤ (N : Int) - 1 := by omega
      have s1 : ∀ W,(Instr.slice 9 (.string s) (some (.int .i64 (k : Int))) (some (.int .i64 ((k : Int) + 1))) none).run Tryz.prog W = .ok (.string CS) W := fun W => by
       have h := run_slice_string (P := Tryz.prog) W 9 s .i64 .i64 (k : Int) ((k : Int) + 1) Tryz.underlying9 (by omega) (by omega) (by omega)
       rw [show s.extract (k : Int).toNat ((k : Int) + 1).toNat = CS by
        apply ByteArray.ext
        apply Array.toList_inj.1
        rw [Lib.extract_data,hCS,show ((k : Int) + 1).toNat = k + 1 by omega,Int.toNat_natCast,show k + 1 - k = 1 by omega,List.drop_eq_getElem_cons hlt',← hch]
        rfl] at h
       exact h
      clear hst hch hN ho hbr h58 hlen hLS hCS hCSz
      go_wp2_with fail
      refine wp_region_quiet_tail_lit 17 (by kernel_rfl) (by kernel_rfl) ?_
      simp only [List.take_succ_cons,List.take_zero,List.drop_succ_cons,List.drop_zero]
      repeat (go_big_quiet_step (fail))
      refine wpQuiet_nil ?_
      rintro _ ⟨nq,rfl⟩
      have HOq := Lib.hid (show (wr.drewN nq).ownsRow w.heap.size 9 1 (.slice (some ⟨g,0,none⟩) N c) N (strs st) from HO.out)
      have HBq := Lib.hid (show Below w.heap.size w (wr.drewN nq) from HBr.out.trans ⟨rfl,rfl,rfl,Nat.le_refl _,fun _ _ => rfl⟩)
      clear c0 z0 HO HBr s1 i1
      generalize wr.drewN nq = wq at HOq HBq ⊢
      have c0 : ∃ v,wq.cell? ⟨g,N - 1,none⟩ = some v := by
       rw [HOq.out.cellAt (N - 1) (by omega)]
       have : N - 1 < (strs st).length := by rw [strs_length]; have := HNe.out; omega
       exact ⟨_,List.getElem?_eq_getElem this⟩
      obtain ⟨vv,c0⟩ := c0
      have z0 := HOq.out.frozenAt (N - 1)
      have HSt := Lib.hid ((HOq.out.stored (N - 1) (.string (LS ++ CS))).1)
      go_wp2_with fail
      go_roundw
      case rel => exact ⟨k + 1,by omega,by go_num,by rw [HST.out,HX.out,HXl.out]; exact HSt.out,HBq.out.setCell hg _⟩
      case measure => simp [intOf]; omega
  · have HK := Lib.hid (show partsS s.data.toList = st by rw [hst,List.take_of_length_le (by rw [HS.out]; omega)])
    have HO := Lib.hid ho
    clear hst ho hlen
    go_wp2_with fail
    go_ret
    rw [HK.out]
    exact ⟨g,c,rfl,HO.out,hbr⟩
end Go.Proofs.YtpoinibckmbfcaaGreatDoor.RefM
namespace Go.Proofs.YtpoinibckmbfcaaGreatDoor.RefM
open Go.RowKit Kit ShaMath ShaT MacM MacT HexMath HexW NumL NumMath
open Go.Sort (grow)
set_option linter.unusedVariables false
set_option maxRecDepth 100000
def ReadB (ok : Bool) (w : World) (e : Ending) (w' : World) : Prop :=
 ∃ n v1 v2,e = .returned (.tuple #[.int .i64 n,v1,v2,.bool ok]) ∧ Below w.heap.size w w'
theorem readB_no {R : Option (Int × List UInt8 × List UInt8)} {n : Int} {v1 v2 : Value} {w w' : World} (h : R = none) (hb : Below w.heap.size w w') : ReadB R.isSome w (.returned (.tuple #[.int .i64 n,v1,v2,.bool false])) w' := by
 subst h
 exact ⟨n,v1,v2,rfl,hb⟩
theorem readB_yes {R : Option (Int × List UInt8 × List UInt8)} {x : Int × List UInt8 × List UInt8} {n : Int} {v1 v2 : Value} {w w' : World} (h : R = some x) (hb : Below w.heap.size w w') : ReadB R.isSome w (.returned (.tuple #[.int .i64 n,v1,v2,.bool true])) w' := by
 subst h
 exact ⟨n,v1,v2,rfl,hb⟩
theorem runhex_b (l : List UInt8) (w : World) (hz : l.length ≤ 1048576) : Calls Tryz.prog 122 #[.string ⟨l.toArray⟩] w (UnB l w) := by
 refine (runhex_any ⟨l.toArray⟩ w (by rw [size_bytes]; omega)).mono ?_
 rintro e w' (⟨hn,he,hb⟩ | ⟨out,v,hu,he,ho,hb⟩)
 · have hn' : unhexL l = none := hn
   exact ⟨none,0,0,by rw [hn']; exact he,fun out h => (by rw [hn'] at h; cases h),hb⟩
 · have hu' : unhexL l = some out := hu
   obtain ⟨p,c,rfl,hbs,h1,h2,h3⟩ := own_full ho
   refine ⟨p,out.length,c,by rw [hu']; exact he,fun out' h => ?_,hb⟩
   rw [hu'] at h
   injection h with h
   subst h
   exact ⟨rfl,hbs,h1,h2,h3⟩
theorem rparse_b (l : List UInt8) (w : World) (hz : l.length ≤ 1048576) : Calls Tryz.prog 121 #[.string ⟨l.toArray⟩] w fun e w' => e = .returned (.tuple #[.int .i64 (pV l),.bool (pB l)]) ∧ Below w.heap.size w w' :=
 Ref01.parse_ref ⟨l.toArray⟩ w (by rw [size_bytes]; omega)
set_option maxHeartbeats 1000000 in
theorem read_other (s : ByteArray) (h : (partsS s.data.toList).1.length ≠ 2) (w : World) (hz : s.size ≤ 1048576) :
  Calls Tryz.prog 88 #[.string s] w (ReadB false w) := by
 have C := Lib.hid (parts_any s w hz)
 obtain ⟨st,hst⟩ : ∃ st,st = partsS s.data.toList := ⟨_,rfl⟩
 rw [← hst] at C h
 clear hst
 go_enter Tryz.func88,Tryz.ntmps88
 go_wp2_with fail
 refine C.out.mono ?_
 rintro e w1 ⟨g,c,rfl,ho,hb⟩
 obtain ⟨N,hN⟩ : ∃ N,N = st.1.length + 1 := ⟨_,rfl⟩
 have hN3 : N ≠ 3 := by omega
 rw [← hN]
 clear ho hN h
 have hd : ((N : Int) != 3) = true := by simp; omega
 go_wp2_with fail
 exact bodyPost_ret (v := .tuple #[.int .i64 0,.slice none 0 0,.slice none 0 0,.bool false]) (by simp [results,Tryz.results88,go_sem]) rfl ⟨_,_,_,rfl,hb⟩
set_option maxHeartbeats 2000000 in
theorem read_three (s : ByteArray) (a b c : List UInt8) (h1 : (partsS s.data.toList).1 = [a,b]) (h2 : (partsS s.data.toList).2 = c) (w : World) (hz : s.size ≤ 1048576) :
  Calls Tryz.prog 88 #[.string s] w (ReadB (recOf3 a b c).isSome w) := by
 have C := Lib.hid (parts_any s w hz)
 have hl := (inv_parts s.data.toList).j
 rw [h1,h2] at hl
 have hs : s.data.toList.length = s.size := by simp
 have hl2 := congrArg List.length hl
 simp [joinP] at hl2
 have hla : a.length ≤ 1048576 := by omega
 have hlb : b.length ≤ 1048576 := by omega
 have hlc : c.length ≤ 1048576 := by omega
 obtain ⟨st,hst⟩ : ∃ st,st = partsS s.data.toList := ⟨_,rfl⟩
 rw [← hst] at C h1 h2
 have S0 := Lib.hid (strs_at st 0 a (by rw [h1]; rfl))
 have S1 := Lib.hid (strs_at st 1 b (by rw [h1]; rfl))
 have S2 := Lib.hid (show (strs st)[2]? = some (.string ⟨c.toArray⟩) by have := strs_last st; rw [h1,h2] at this; exact this)
 have HL := Lib.hid (show st.1.length + 1 = 3 by rw [h1]; rfl)
 clear hst h1 h2 hl hl2 hs
 go_enter Tryz.func88,Tryz.ntmps88
 go_wp2_with fail
 refine C.out.mono ?_
 rintro e w1 ⟨g,cp,rfl,ho,hb1⟩
 rw [HL.out] at ho ⊢
 obtain ⟨g',cap',e',hg,hgl⟩ := ho.form (by omega)
 injection e' with e1 _ _
 injection e1 with e1
 injection e1 with e1
 subst e1
 have c0 := ho.cellAt 0 (by omega)
 have c1 := ho.cellAt 1 (by omega)
 have c2 := ho.cellAt 2 (by omega)
 rw [S0.out] at c0
 rw [S1.out] at c1
 rw [S2.out] at c2
 have HB1 := Lib.hid hb1
 have K1 := Lib.hid c1
 have K2 := Lib.hid c2
 clear ho hb1 c1 c2 S0 S1 S2 HL
 go_wp2_with fail
 refine (rparse_b a _ hla).mono ?_
 rintro e w2 ⟨rfl,hb2⟩
 have HB2 := Lib.hid (HB1.out.trans (hb2.mono HB1.out.size))
 have c1 := (hb2.cell (p := ⟨g,1,none⟩) hgl).trans K1.out
 have J2 := Lib.hid ((hb2.cell (p := ⟨g,2,none⟩) hgl).trans K2.out)
 have hgl2 : g < w2.heap.size := Nat.lt_of_lt_of_le hgl hb2.size
 clear hb2 HB1 K1 K2 c0
 go_wp2_with fail
 refine (runhex_b b _ hlb).mono ?_
 rintro e w3 ⟨p1,n1,k1,rfl,hf1,hb3⟩
 have HB3 := Lib.hid (HB2.out.trans (hb3.mono HB2.out.size))
 have c2 := (hb3.cell (p := ⟨g,2,none⟩) hgl2).trans J2.out
 have F1 := Lib.hid hf1
 clear hb3 HB2 J2 c1 hf1
 go_wp2_with fail
 refine (runhex_b c _ hlc).mono ?_
 rintro e w4 ⟨p2,n2,k2,rfl,hf2,hb4⟩
 have hb := HB3.out.trans (hb4.mono HB3.out.size)
 have F2 := Lib.hid hf2
 clear hb4 HB3 c2 hf2
 rcases hA : parse a with _ | r
 · have HN := Lib.hid (recOf3_a (b := b) (c := c) hA)
   have hp : pB a = false := by unfold pB; rw [hA]; rfl
   clear hA
   go_wp2_with fail
   exact bodyPost_ret (v := .tuple #[.int .i64 (pV a),.slice p1 n1 k1,.slice p2 n2 k2,.bool false]) (by simp [results,Tryz.results88,go_sem]) rfl (readB_no HN.out hb)
 have hp : pB a = true := by unfold pB; rw [hA]; rfl
 have HV := Lib.hid (show pV a = r by unfold pV; rw [hA]; rfl)
 have HA := Lib.hid hA
 clear hA
 rcases hB : unhexL b with _ | salt
 · have HN := Lib.hid (recOf3_b (a := a) (c := c) hB)
   have hp1 : (unhexL b).isSome = false := by rw [hB]; rfl
   clear hB
   go_wp2_with fail
   exact bodyPost_ret (v := .tuple #[.int .i64 (pV a),.slice p1 n1 k1,.slice p2 n2 k2,.bool false]) (by simp [results,Tryz.results88,go_sem]) rfl (readB_no HN.out hb)
 have hp1 : (unhexL b).isSome = true := by rw [hB]; rfl
 have HN1 := Lib.hid (F1.out salt hB).1
 have HBb := Lib.hid hB
 clear hB
 rcases hD : unhexL c with _ | d
 · have HN := Lib.hid (recOf3_c (a := a) (b := b) hD)
   have hp2 : (unhexL c).isSome = false := by rw [hD]; rfl
   clear hD
   go_wp2_with fail
   exact bodyPost_ret (v := .tuple #[.int .i64 (pV a),.slice p1 n1 k1,.slice p2 n2 k2,.bool false]) (by simp [results,Tryz.results88,go_sem]) rfl (readB_no HN.out hb)
 have hp2 : (unhexL c).isSome = true := by rw [hD]; rfl
 have HN2 := Lib.hid (F2.out d hD).1
 have HDd := Lib.hid hD
 clear hD F1 F2
 by_cases hr0 : 1 ≤ pV a
 · have e0 : decide (1 ≤ pV a) = true := decide_eq_true hr0
   by_cases hr1 : pV a ≤ 64
   · have e1 : decide (pV a ≤ 64) = true := decide_eq_true hr1
     by_cases h32 : n1 ≤ 32
     · have d1 : decide ((n1 : Int) ≤ 32) = true := decide_eq_true (by omega)
       have d1b : decide (n1 ≤ 32) = true := decide_eq_true h32
       by_cases hd32 : n2 = 32
       · have d2 : ((n2 : Int) == 32) = true := by rw [hd32]; rfl
         have HN := Lib.hid (recOf3_some HA.out HBb.out HDd.out ⟨by rw [← HV.out]; exact hr0,by rw [← HV.out]; exact hr1,by rw [HN1.out]; exact h32,by rw [HN2.out]; exact hd32⟩)
         clear hd32
         go_wp2_with fail
         exact bodyPost_ret (v := .tuple #[.int .i64 (pV a),.slice p1 n1 k1,.slice p2 n2 k2,.bool true]) (by simp [results,Tryz.results88,go_sem]) rfl (readB_yes HN.out hb)
       · have d2 : ((n2 : Int) == 32) = false := by simp; omega
         have HN := Lib.hid (recOf3_out HA.out HBb.out HDd.out (by rw [HN2.out]; omega))
         go_wp2_with fail
         exact bodyPost_ret (v := .tuple #[.int .i64 (pV a),.slice p1 n1 k1,.slice p2 n2 k2,.bool false]) (by simp [results,Tryz.results88,go_sem]) rfl (readB_no HN.out hb)
     · have d1 : decide ((n1 : Int) ≤ 32) = false := decide_eq_false (by omega)
       have d1b : decide (n1 ≤ 32) = false := decide_eq_false h32
       have HN := Lib.hid (recOf3_out HA.out HBb.out HDd.out (by rw [HN1.out]; omega))
       go_wp2_with fail
       exact bodyPost_ret (v := .tuple #[.int .i64 (pV a),.slice p1 n1 k1,.slice p2 n2 k2,.bool false]) (by simp [results,Tryz.results88,go_sem]) rfl (readB_no HN.out hb)
   · have e1 : decide (pV a ≤ 64) = false := decide_eq_false hr1
     have HN := Lib.hid (recOf3_out HA.out HBb.out HDd.out (by have := HV.out; omega))
     go_wp2_with fail
     exact bodyPost_ret (v := .tuple #[.int .i64 (pV a),.slice p1 n1 k1,.slice p2 n2 k2,.bool false]) (by simp [results,Tryz.results88,go_sem]) rfl (readB_no HN.out hb)
 · have e0 : decide (1 ≤ pV a) = false := decide_eq_false hr0
   have HN := Lib.hid (recOf3_out HA.out HBb.out HDd.out (by have := HV.out; omega))
   go_wp2_with fail
   exact bodyPost_ret (v := .tuple #[.int .i64 (pV a),.slice p1 n1 k1,.slice p2 n2 k2,.bool false]) (by simp [results,Tryz.results88,go_sem]) rfl (readB_no HN.out hb)
theorem read_any (s : ByteArray) (w : World) (hz : s.size ≤ 1048576) : Calls Tryz.prog 88 #[.string s] w (ReadB (rightB s.data.toList) w) := by
 by_cases h : (partsS s.data.toList).1.length = 2
 · match hp : (partsS s.data.toList).1,h with
   | [a,b],_ =>
     have e : rightB s.data.toList = (recOf3 a b (partsS s.data.toList).2).isSome := by unfold rightB; rw [parts_three _ a b hp]
     rw [e]
     exact read_three s a b _ hp rfl w hz
 · have e : rightB s.data.toList = false := by unfold rightB; rw [parts_other _ h]; rfl
   rw [e]
   exact read_other s h w hz
set_option maxHeartbeats 1000000 in
theorem rright_any (s : ByteArray) (w : World) (hz : s.size ≤ 1048576) :
  Calls Tryz.prog 48 #[.string s] w fun e w' => e = .returned (.bool (rightB s.data.toList)) ∧ Below w.heap.size w w' := by
 have C := Lib.hid (read_any s w hz)
 obtain ⟨R,hR⟩ : ∃ R,R = rightB s.data.toList := ⟨_,rfl⟩
 rw [← hR] at C ⊢
 clear hR
 go_enter Tryz.func48,Tryz.ntmps48
 go_wp2_with fail
 refine C.out.mono ?_
 rintro e w1 ⟨n,v1,v2,rfl,hb⟩
 go_wp2_with fail
 go_ret
 exact ⟨rfl,hb⟩
theorem rhex_n (p : Option Addr) (l : List UInt8) (n cap : Nat) (w : World) (hn : l.length = n) (hb : Bs w p l) (hl : l.length ≤ 70368744176640) :
  Calls Tryz.prog 73 #[.slice p n cap] w fun e w' => e = .returned (.string ⟨(hexL l).toArray⟩) ∧ Below w.heap.size w w' := by
 subst hn
 exact rhex_any p l cap w hb hl
theorem rderive_text (s : ByteArray) (q : Option Addr) (salt : List UInt8) (m cap2 : Nat) (r : Nat) (w : World) (h0 : 1 ≤ r) (h1 : r ≤ 64) (hz : s.size ≤ 70368744170000)
    (hm : salt.length = m) (hbs : Bs w q salt) (hl : salt.length ≤ 70368744160000) (hnil : q = none → cap2 = 0) :
    Calls Tryz.prog 71 #[.slice (some ⟨w.heap.size,0,none⟩) s.size (grownCap w s.size 0 5),.slice q m cap2,.int .i64 (r : Int)] (Lib.bytesWorld w 5 s) fun e w' => e = .returned (.agg (row .u8 32 (derAt s.data.toList salt r))) ∧ Below w.heap.size w w' := by
  have hb := bytesWorld_below w 5 s
  have hs : s.data.toList.length = s.size := by simp
  refine (rderive_in _ s.data.toList s.size _ q salt m cap2 r _ h0 h1 hs (bytes_bs w s) (by omega) (fun h => by cases h) hm (hbs.keep hb) hl hnil).mono ?_
  rintro e w' ⟨he,hb2⟩
  exact ⟨he,hb.trans (hb2.mono hb.size)⟩
set_option maxHeartbeats 1000000 in
theorem rrecord_yes (s : ByteArray) (p : Option Addr) (l : List UInt8) (n cap r : Nat) (w : World) (h0 : 1 ≤ r) (h1 : r ≤ 64) (hz : s.size ≤ 70368744170000) (hn : l.length = n) (hb : Bs w p l) (hl : n ≤ 32) (hnil : p = none → cap = 0) :
  Calls Tryz.prog 26 #[.string s,.slice p n cap,.int .i64 (r : Int)] w fun e w' => e = .returned (.tuple #[.string ⟨(recL r l (derL s.data.toList l r)).toArray⟩,.bool true]) ∧ Below w.heap.size w w' := by
 obtain ⟨hz3,hn3⟩ := zero_of_info info_32
 have HN := Lib.hid hn3
 clear hn3
 have hconv := fun W => Lib.run_convert_string_bytes (P := Tryz.prog) W 9 30 5 s Tryz.underlying9 Tryz.underlying30 Tryz.underlying5
 have CD := Lib.hid (rderive_text s p l n cap r w h0 h1 hz hn hb (by omega) hnil)
 have HLn := Lib.hid hn
 have HB := Lib.hid hb
 have d1 : decide ((r : Int) < 1) = false := decide_eq_false (by omega)
 have d2 : decide (64 < (r : Int)) = false := decide_eq_false (by omega)
 have d3 : decide (32 < (n : Int)) = false := decide_eq_false (by omega)
 obtain ⟨D,hD⟩ : ∃ D,D = derAt s.data.toList l r := ⟨_,rfl⟩
 have HDL := Lib.hid (show ∀ j,D j < 256 by rw [hD]; exact derAt_lt _ _ _)
 have HDe := Lib.hid (show derL s.data.toList l r = bytesOf 32 D by rw [hD]; rfl)
 rw [HDe.out]
 rw [← hD] at CD
 obtain ⟨T,hT⟩ : ∃ T : ByteArray,T = ⟨(Lib.itoa (r : Int)).toArray⟩ := ⟨_,rfl⟩
 obtain ⟨H1,hH1⟩ : ∃ H1 : ByteArray,H1 = ⟨(hexL l).toArray⟩ := ⟨_,rfl⟩
 obtain ⟨H2,hH2⟩ : ∃ H2 : ByteArray,H2 = ⟨(hexL (bytesOf 32 D)).toArray⟩ := ⟨_,rfl⟩
 have ht2 : T.size ≤ 2 := by rw [hT,size_bytes]; exact itoa_small r (by omega)
 have hs1 : H1.size ≤ 64 := by rw [hH1,size_bytes,hexL_length]; omega
 have hs2 : H2.size ≤ 64 := by rw [hH2,size_bytes,hexL_length,bytesOf_length]; omega
 have HE := Lib.hid (rec_bytes hT hH1 hH2)
 rw [← HE.out]
 have CT := fun W => Ref01.text_any 64 (r : Int) W (by omega) (by omega) (by omega)
 rw [← hT] at CT
 have CH1 := fun W (h : Bs W p l) => rhex_n p l n cap W hn h (by omega)
 rw [← hH1] at CH1
 have CH2 := fun W q (h : Bs W q (bytesOf 32 D)) => rhex_n q (bytesOf 32 D) 32 32 W (bytesOf_length _ _) h (by rw [bytesOf_length]; decide)
 rw [← hH2] at CH2
 have CT := Lib.hid CT
 have CH1 := Lib.hid CH1
 have CH2 := Lib.hid CH2
 clear hT hH1 hH2 hD hn hb
 go_enter Tryz.func26,Tryz.ntmps26
 go_wp2_with fail
 refine (CD.out).mono ?_
 rintro e w1 ⟨rfl,hb1⟩
 clear hconv
 go_upto_region 4 with (with_reducible refine wpList_store_arr rfl 89 (.tmp 8) (.tmp 24) rfl w1.heap.size .u8 32 D rfl rfl 89 _ Arr.new HN ?_)
 go_simp
 have hA : Arr ((w1.alloc (.cells (row .u8 32 fun _ => 0) 89)).setRow w1.heap.size (row .u8 32 D)) w1.heap.size .u8 32 89 D := Arr.new.setRow _
 have hb2 : Below w.heap.size w ((w1.alloc (.cells (row .u8 32 fun _ => 0) 89)).setRow w1.heap.size (row .u8 32 D)) := below_setRow (hb1.alloc hb1.size _) hb1.size _
 generalize World.setRow _ _ _ = w2 at hA hb2 ⊢
 generalize w1.heap.size = g8 at hA ⊢
 have HA := Lib.hid hA
 have hb := hb2
 have CQ1 := Lib.hid (fun d os => Calls.regrown_of (CT.out (grow (redrawn w2 d) os)))
 have CQ2 := Lib.hid (fun d os => Calls.regrown_of (CH1.out (grow (redrawn w2 d) os) (HB.out.keep (hb2.trans ((below_regrown w2 d os).mono hb2.size)))))
 have CQ3 := Lib.hid (fun d os => Calls.regrown_of (CH2.out (grow (redrawn w2 d) os) _ ((arr_bs HA.out HDL.out).keep (below_regrown w2 d os))))
 clear hA hb1 hb2
 refine wp_region_quiet_below (by kernel_rfl) (by kernel_rfl) ?_
 repeat (any_goals (go_big_quiet_step ((first | (go_at_call 72; with_reducible exact CQ1.out _ _) | (go_at_call 73; with_reducible exact CQ2.out _ _) | (go_at_call 73; with_reducible exact CQ3.out _ _)))))
 refine wpQuiet_nil ?_
 intro _ hw'
 obtain ⟨⟨dq,osq⟩,hw''⟩ := hw'
 subst hw''
 replace hb := hb.trans ((below_regrown _ dq osq).mono hb.size)
 clear CQ1 CQ2 CQ3
 go_wp2_with fail
 go_ret2
 exact ⟨rfl,hb⟩
set_option maxHeartbeats 1000000 in
theorem rrecord_no (s : ByteArray) (p : Option Addr) (n cap : Nat) (r : Int) (w : World) (h : ¬ ((1 ≤ r ∧ r ≤ 64) ∧ n ≤ 32)) :
  Calls Tryz.prog 26 #[.string s,.slice p n cap,.int .i64 r] w fun e w' => e = .returned (.tuple #[.string ⟨#[]⟩,.bool false]) ∧ Below w.heap.size w w' := by
 by_cases h1 : r < 1
 · have d1 : decide (r < 1) = true := decide_eq_true h1
   clear h
   go_enter Tryz.func26,Tryz.ntmps26
   go_wp2_with fail
   go_ret2
   exact ⟨rfl,Below.refl _ _⟩
 · have d1 : decide (r < 1) = false := decide_eq_false h1
   by_cases h2 : 64 < r
   · have d2 : decide (64 < r) = true := decide_eq_true h2
     clear h
     go_enter Tryz.func26,Tryz.ntmps26
     go_wp2_with fail
     go_ret2
     exact ⟨rfl,Below.refl _ _⟩
   · have d2 : decide (64 < r) = false := decide_eq_false h2
     have d3 : decide (32 < (n : Int)) = true := decide_eq_true (by omega)
     clear h
     go_enter Tryz.func26,Tryz.ntmps26
     go_wp2_with fail
     go_ret2
     exact ⟨rfl,Below.refl _ _⟩
end Go.Proofs.YtpoinibckmbfcaaGreatDoor.RefM
