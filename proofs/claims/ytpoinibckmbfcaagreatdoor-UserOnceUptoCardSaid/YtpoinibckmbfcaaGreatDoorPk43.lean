/-
  Packed by program.
-/
import Derived.Test.YtpoinibckmbfcaaGreatDoorPk42
import Derived.Test.YtpoinibckmbfcaaGreatDoorPk20
import Derived.Test.YtpoinibckmbfcaaGreatDoorPk20
import Derived.Test.YtpoinibckmbfcaaGreatDoorPk40
namespace Go.Proofs.YtpoinibckmbfcaaGreatDoor.RefUser
open Go.RowKit Kit StrT RowG RuleT UserT UserR TableMath Low ValT
open Go.Sort (grow)
open RefRule (results_cell_slot)
set_option linter.unusedVariables false
set_option maxRecDepth 100000
theorem size_dl {s : ByteArray} : s.data.toList.length = s.size := by simp
theorem name_stop {l : List UInt8} {k : Nat} (h : ((l.take k).filter nameC).length = 12) : (l.filter nameC).take 12 = (l.take k).filter nameC := by
 have e : l.filter nameC = (l.take k).filter nameC ++ (l.drop k).filter nameC := by rw [← List.filter_append,List.take_append_drop]
 rw [e,← h,List.take_left]
theorem name_end {l : List UInt8} (h : (l.filter nameC).length ≤ 12) : (l.filter nameC).take 12 = l.filter nameC := List.take_of_length_le h
theorem name_of {l X : List UInt8} (h : (l.filter nameC).take 12 = X) : nameD l = if X = [] then [117] else X := by
 unfold nameD
 rw [h]
structure FB (w : World) (p : UP) (wr : World) : Prop where
 bel : Below w.heap.size w wr
 b4 : wr.heap[w.heap.size]? = some (.cells ucs0 26 (0,0))
 b7 : wr.heap[w.heap.size + 1]? = some (.cells (ucs p) 26 (0,0))
 ip : UIn wr p
 at_ : ∀ k,p.at_ k → w.heap.size + 1 < k
theorem FB.lt {w wr : World} {p : UP} (h : FB w p wr) : w.heap.size + 1 < wr.heap.size := (Array.getElem?_eq_some_iff.1 h.b7).1
theorem FB.keep {w wr w' : World} {p : UP} (h : FB w p wr) (hb : Below wr.heap.size wr w') : FB w p w' := by
 have hl := h.lt
 exact ⟨h.bel.trans (hb.mono h.bel.size),by rw [hb.block _ (by omega)]; exact h.b4,by rw [hb.block _ hl]; exact h.b7,h.ip.keep hb,h.at_⟩
theorem FB.new (w : World) (N : ByteArray) : FB w (newP N) ((w.alloc (.cells ucs0 26)).alloc (.cells (ucs (newP N)) 26)) := by
 have b1 := Kit.below1 w (.cells ucs0 26)
 refine ⟨b1.alloc b1.size _,?_,?_,newP_in N _,fun k hk => absurd hk (newP_at N k)⟩
 · rw [(Kit.below1 _ _).block _ (by simp)]
   exact heap_alloc_last w _
 · have := heap_alloc_last (w.alloc (.cells ucs0 26)) (.cells (ucs (newP N)) 26)
   simpa using this
def set7 (w : World) (g : Nat) (x0 x1 x2 x3 x4 x5 x6 : Value) : World := ((((((w.setCell ⟨g,0,none⟩ x0).setCell ⟨g,1,none⟩ x1).setCell ⟨g,2,none⟩ x2).setCell ⟨g,3,none⟩ x3).setCell ⟨g,4,none⟩ x4).setCell ⟨g,5,none⟩ x5).setCell ⟨g,6,none⟩ x6
theorem set7_other (w : World) (g : Nat) (x0 x1 x2 x3 x4 x5 x6 : Value) (k : Nat) (hk : k ≠ g) : (set7 w g x0 x1 x2 x3 x4 x5 x6).heap[k]? = w.heap[k]? := by
 unfold set7
 rw [heap_setCell_other _ _ _ _ hk,heap_setCell_other _ _ _ _ hk,heap_setCell_other _ _ _ _ hk,heap_setCell_other _ _ _ _ hk,heap_setCell_other _ _ _ _ hk,heap_setCell_other _ _ _ _ hk,heap_setCell_other _ _ _ _ hk]
theorem set7_size (w : World) (g : Nat) (x0 x1 x2 x3 x4 x5 x6 : Value) : (set7 w g x0 x1 x2 x3 x4 x5 x6).heap.size = w.heap.size := by simp [set7]
theorem set7_same (w : World) (g : Nat) (y0 y1 y2 y3 y4 y5 y6 x0 x1 x2 x3 x4 x5 x6 : Value) (h : w.heap[g]? = some (.cells #[y0,y1,y2,y3,y4,y5,y6] 26 (0,0))) : (set7 w g x0 x1 x2 x3 x4 x5 x6).heap[g]? = some (.cells #[x0,x1,x2,x3,x4,x5,x6] 26 (0,0)) := by
 have h1 : (w.setCell ⟨g,0,none⟩ x0).heap[g]? = some (.cells #[x0,y1,y2,y3,y4,y5,y6] 26 (0,0)) := heap_setCell_same _ _ 0 _ _ x0 h
 have h2 : ((w.setCell ⟨g,0,none⟩ x0).setCell ⟨g,1,none⟩ x1).heap[g]? = some (.cells #[x0,x1,y2,y3,y4,y5,y6] 26 (0,0)) := heap_setCell_same _ _ 1 _ _ x1 h1
 have h3 : (((w.setCell ⟨g,0,none⟩ x0).setCell ⟨g,1,none⟩ x1).setCell ⟨g,2,none⟩ x2).heap[g]? = some (.cells #[x0,x1,x2,y3,y4,y5,y6] 26 (0,0)) := heap_setCell_same _ _ 2 _ _ x2 h2
 have h4 : ((((w.setCell ⟨g,0,none⟩ x0).setCell ⟨g,1,none⟩ x1).setCell ⟨g,2,none⟩ x2).setCell ⟨g,3,none⟩ x3).heap[g]? = some (.cells #[x0,x1,x2,x3,y4,y5,y6] 26 (0,0)) := heap_setCell_same _ _ 3 _ _ x3 h3
 have h5 : (((((w.setCell ⟨g,0,none⟩ x0).setCell ⟨g,1,none⟩ x1).setCell ⟨g,2,none⟩ x2).setCell ⟨g,3,none⟩ x3).setCell ⟨g,4,none⟩ x4).heap[g]? = some (.cells #[x0,x1,x2,x3,x4,y5,y6] 26 (0,0)) := heap_setCell_same _ _ 4 _ _ x4 h4
 have h6 : ((((((w.setCell ⟨g,0,none⟩ x0).setCell ⟨g,1,none⟩ x1).setCell ⟨g,2,none⟩ x2).setCell ⟨g,3,none⟩ x3).setCell ⟨g,4,none⟩ x4).setCell ⟨g,5,none⟩ x5).heap[g]? = some (.cells #[x0,x1,x2,x3,x4,x5,y6] 26 (0,0)) := heap_setCell_same _ _ 5 _ _ x5 h5
 have h7 : (((((((w.setCell ⟨g,0,none⟩ x0).setCell ⟨g,1,none⟩ x1).setCell ⟨g,2,none⟩ x2).setCell ⟨g,3,none⟩ x3).setCell ⟨g,4,none⟩ x4).setCell ⟨g,5,none⟩ x5).setCell ⟨g,6,none⟩ x6).heap[g]? = some (.cells #[x0,x1,x2,x3,x4,x5,x6] 26 (0,0)) := heap_setCell_same _ _ 6 _ _ x6 h6
 exact h7
theorem set7_below {B : Nat} {w0 w : World} (h : Below B w0 w) (g : Nat) (hg : B ≤ g) (x0 x1 x2 x3 x4 x5 x6 : Value) : Below B w0 (set7 w g x0 x1 x2 x3 x4 x5 x6) :=
 ((((((h.setCell (p := ⟨g,0,none⟩) hg x0).setCell (p := ⟨g,1,none⟩) hg x1).setCell (p := ⟨g,2,none⟩) hg x2).setCell (p := ⟨g,3,none⟩) hg x3).setCell (p := ⟨g,4,none⟩) hg x4).setCell (p := ⟨g,5,none⟩) hg x5).setCell (p := ⟨g,6,none⟩) hg x6
theorem FB.put {w wr : World} {p o : UP} (h : FB w p wr) (hi : UIn wr o) (hat : ∀ k,o.at_ k → w.heap.size + 1 < k) : FB w o (set7 wr (w.heap.size + 1) (.string o.N) (.bool o.on) (.bool o.np) (.slice o.qh o.nh o.ch) (.int .u64 o.m) (.slice o.qk o.nk o.ck) (.slice o.qc o.nc o.cc)) :=
 ⟨set7_below h.bel _ (by omega) _ _ _ _ _ _ _,by rw [set7_other _ _ _ _ _ _ _ _ _ _ (by omega)]; exact h.b4,set7_same _ _ _ _ _ _ _ _ _ _ _ _ _ _ _ _ h.b7,hi.same (by rw [set7_size]; exact Nat.le_refl _) (fun k hk => set7_other _ _ _ _ _ _ _ _ _ _ (by have := hat k hk; omega)),hat⟩
theorem FB.fin {w wr : World} {p : UP} (h : FB w p wr) : AnsU (fun _ => False) p.d w (.returned p.agg) (wr.setRow w.heap.size (ucs p)) :=
 ⟨p,rfl,UIn.row h.ip _ (fun k hk => by have := h.at_ k hk; omega),rfl,fun k hk => Or.inr (by have := h.at_ k hk; omega),below_setRow h.bel (Nat.le_refl _) _⟩
set_option maxHeartbeats 16000000 in
theorem fit_any (s : ByteArray) (q : Option Addr) (n c : Nat) (L : List RV) (w : World) (hz : s.size ≤ 140737488351232) (hn : L.length = n) (hnz : n ≤ 140737488351232) (h : Rs ruE w q L) (hL : ∀ v ∈ L,v.kind ≤ 255 ∧ v.mask < 18446744073709551616) :
  Calls Tryz.prog 9 #[.string s,.slice q n c] w fun e w' => AnsU (fun _ => False) (fitD s.data.toList L) w e w' := by
 have HN := Lib.hid hn
 have HR := Lib.hid h
 have HL := Lib.hid hL
 have HSl := Lib.hid (size_dl (s := s))
 have bb : ∀ (S : ByteArray) (W : World),(Instr.build 26 #[(0,.string S)]).run Tryz.prog W = .ok (.agg #[.string S,.bool false,.bool false,.slice none 0 0,.int .u64 0,.slice none 0 0,.slice none 0 0]) W := fun S W => run_build W 26 _ _ (by kernel_rfl)
 have HC := Lib.hid (user_cs)
 clear hn h hL
 go_enter Tryz.func9,Tryz.ntmps9
 go_upto_region 3 with fail
 go_loopw [5,6] (fun v i wr => ∃ (k : Nat) (X : ByteArray),k ≤ s.size ∧ i = .int .i64 k ∧ v = .string X ∧ Hid (X.data.toList = (s.data.toList.take k).filter nameC) ∧ X.size ≤ 12 ∧ w.alloc (.cells ucs0 26) = wr) (fun _ i _ => s.size - (intOf i).toNat)
 case atStart => exact ⟨0,⟨#[]⟩,Nat.zero_le _,rfl,rfl,Lib.hid rfl,by decide,rfl⟩
 case round =>
  obtain ⟨k,X,hk,rfl,rfl,HX,hx12,rfl⟩ := hrel
  have HXs := Lib.hid (size_dl (s := X))
  by_cases hgo : k < s.size ∧ X.size < 12
  · obtain ⟨hlt,h12⟩ := hgo
    have d1 : decide ((k : Int) < (s.size : Int)) = true := decide_eq_true (by omega)
    have d2 : decide ((X.size : Int) < 12) = true := decide_eq_true (by omega)
    have hlt' : k < s.data.toList.length := by rw [HSl.out]; exact hlt
    have HTk := Lib.hid (show (s.data.toList.take (k + 1)).filter nameC = (s.data.toList.take k).filter nameC ++ [s.data.toList[k]].filter nameC by rw [List.take_succ_eq_append_getElem hlt',List.filter_append])
    obtain ⟨ch,hch⟩ : ∃ ch,ch = s.data.toList[k] := ⟨_,rfl⟩
    rw [← hch] at HTk
    have i1 := fun W => MacT.idx_at s k ch (by rw [List.getElem?_eq_getElem hlt',hch]) (k : Int) rfl W
    obtain ⟨CS,hCS⟩ : ∃ CS : ByteArray,CS = ⟨#[ch]⟩ := ⟨_,rfl⟩
    have hCSb : CS.size ≤ 1 := by rw [hCS]; exact Nat.le_refl _
    have HCS := Lib.hid (show CS.data.toList = [ch] by rw [hCS])
    have s1 : ∀ W,(Instr.slice 9 (.string s) (some (.int .i64 (k : Int))) (some (.int .i64 ((k : Int) + 1))) none).run Tryz.prog W = .ok (.string CS) W := fun W => by
     have h := run_slice_string (P := Tryz.prog) W 9 s .i64 .i64 (k : Int) ((k : Int) + 1) Tryz.underlying9 (by omega) (by omega) (by omega)
     rw [show s.extract (k : Int).toNat ((k : Int) + 1).toNat = CS by
      apply ByteArray.ext
      apply Array.toList_inj.1
      rw [Lib.extract_data,hCS,show ((k : Int) + 1).toNat = k + 1 by omega,Int.toNat_natCast,show k + 1 - k = 1 by omega,List.drop_eq_getElem_cons hlt',← hch]
      rfl] at h
     exact h
    clear hch hCS
    obtain ⟨cn,hcn⟩ : ∃ cn : Nat,cn = ch.toNat := ⟨_,rfl⟩
    have HOk := Lib.hid (show nameC ch = (decide (32 < cn) && decide (cn < 127)) by rw [hcn]; rfl)
    rw [← hcn] at i1
    clear hcn
    by_cases g1 : 32 < cn
    · have e1 : decide ((32 : Int) < (cn : Int)) = true := decide_eq_true (by omega)
      by_cases g2 : cn < 127
      · have e2 : decide ((cn : Int) < 127) = true := decide_eq_true (by omega)
        have HNx := Lib.hid (show (X ++ CS).data.toList = (s.data.toList.take (k + 1)).filter nameC by
         rw [HTk.out,← HX.out,List.filter_cons_of_pos (by rw [HOk.out]; simp [g1,g2]),List.filter_nil,← HCS.out]
         simp)
        have hnx : (X ++ CS).size ≤ 12 := by rw [ByteArray.size_append]; omega
        go_wp2_with fail
        go_roundw
        case rel => exact ⟨k + 1,X ++ CS,by omega,by go_num,rfl,HNx,hnx,trivial⟩
        case measure => simp [intOf]; omega
      · have e2 : decide ((cn : Int) < 127) = false := decide_eq_false (by omega)
        have HNx := Lib.hid (show X.data.toList = (s.data.toList.take (k + 1)).filter nameC by rw [HTk.out,← HX.out,List.filter_cons_of_neg (by rw [HOk.out]; simp [g2]),List.filter_nil,List.append_nil])
        clear s1
        go_wp2_with fail
        go_roundw
        case rel => exact ⟨k + 1,X,by omega,by go_num,rfl,HNx,hx12,trivial⟩
        case measure => simp [intOf]; omega
    · have e1 : decide ((32 : Int) < (cn : Int)) = false := decide_eq_false (by omega)
      have HNx := Lib.hid (show X.data.toList = (s.data.toList.take (k + 1)).filter nameC by rw [HTk.out,← HX.out,List.filter_cons_of_neg (by rw [HOk.out]; simp [g1]),List.filter_nil,List.append_nil])
      clear s1
      go_wp2_with fail
      go_roundw
      case rel => exact ⟨k + 1,X,by omega,by go_num,rfl,HNx,hx12,trivial⟩
      case measure => simp [intOf]; omega
  · have HE := Lib.hid (show (s.data.toList.filter nameC).take 12 = X.data.toList by
     by_cases hlt : k < s.size
     · have h12 : X.size = 12 := by omega
       have := HX.out
       rw [name_stop (k := k) (by rw [← this,HXs.out]; exact h12)]
       exact this.symm
     · have e : s.data.toList.take k = s.data.toList := List.take_of_length_le (by rw [HSl.out]; omega)
       have := HX.out
       rw [e] at this
       rw [name_end (by rw [← this,HXs.out]; exact hx12)]
       exact this.symm)
    by_cases hne : X.data.toList = []
    · obtain rfl : X = ⟨#[]⟩ := RefRule.str_of hne
      have HNm0 : (⟨#[117]⟩ : ByteArray).data.toList = nameD s.data.toList := by rw [name_of HE.out]; rfl
      have hks : ¬ k < s.size := fun h => hgo ⟨h,by decide⟩
      have d1 : decide ((k : Int) < (s.size : Int)) = false := decide_eq_false (by omega)
      have d1b : ¬ ((k : Int) < (s.size : Int)) := by omega
      clear hgo hne hx12
      have HNm := Lib.hid (show (⟨#[117]⟩ : ByteArray).data.toList = nameD s.data.toList from HNm0)
      clear HNm0 HX HE HXs
      have HF0 := Lib.hid (FB.new w ⟨#[117]⟩)
      have HRg := Lib.hid (right_new (name_word s.data.toList).1 (Nat.le_trans (name_word s.data.toList).2 (by decide)))
      simp only [ucs,newP] at HF0
      go_upto_region 10 with fail
      generalize (w.alloc _).alloc _ = w1 at HF0 ⊢
      go_wp2_with fail
      go_loopw [8] (fun i wr => ∃ (j : Nat) (p : UP),j ≤ n ∧ j ≤ 20 ∧ i = .int .i64 j ∧ Hid (FB w p wr) ∧ Hid (p.d = (L.take j).foldl fitS (newU (nameD s.data.toList)))) (fun i _ => n - (intOf i).toNat)
      case atStart => exact ⟨0,newP ⟨#[117]⟩,Nat.zero_le _,Nat.zero_le _,rfl,HF0,Lib.hid (by show newU _ = _; rw [HNm.out]; rfl)⟩
      case round =>
       clear HF0
       obtain ⟨j,p,hj,hj20,rfl,HF,HD⟩ := hrel
       have HRt := Lib.hid (show RightU p.d by rw [HD.out]; exact fit_fold _ _ HRg.out)
       obtain ⟨N,on,np,qh,nh,ch,mm,qk,nk,ck,qc,nc,cc,d⟩ := p
       obtain ⟨x0,x1,x2,x3,x4,x5,x6⟩ := u_cells HF.out.b7
       by_cases hgo : j < n ∧ j < 20
       · obtain ⟨hlt,h20⟩ := hgo
         have d1 : decide ((j : Int) < (n : Int)) = true := decide_eq_true (by omega)
         have d2 : decide ((j : Int) < 20) = true := decide_eq_true (by omega)
         have j0 : (0 : Int) ≤ (j : Int) := by omega
         have j1 : (j : Int) < (n : Int) := by omega
         have hjl : j < L.length := by rw [HN.out]; exact hlt
         have HTk := Lib.hid (show (L.take (j + 1)).foldl fitS (newU (nameD s.data.toList)) = fitS d L[j] by
          rw [List.take_succ_eq_append_getElem hjl,List.foldl_append,← HD.out]
          rfl)
         have HLj := Lib.hid (HL.out _ (List.getElem_mem hjl))
         obtain ⟨b,off,rfl,hbl,v0,v1,v2,v3,v4⟩ := rule_cells (HR.out.keep HF.out.bel) j hjl
         obtain ⟨r,hr⟩ : ∃ r,r = L[j] := ⟨_,rfl⟩
         rw [← hr] at HTk HLj v0 v1 v2 v3 v4
         clear hr hbl
         obtain ⟨rk,rs,ra,rb,rm⟩ := r
         simp only at v0 v1 v2 v3 v4
         obtain ⟨T,hT⟩ : ∃ T : ByteArray,T = ⟨rs.toArray⟩ := ⟨_,rfl⟩
         rw [← hT] at v1
         obtain rfl : rs = T.data.toList := by rw [hT]
         clear hT
         have HTs := Lib.hid (size_dl (s := T))
         by_cases h140 : T.size ≤ 140
         · have d3 : decide ((T.size : Int) ≤ 140) = true := decide_eq_true (by omega)
           have HSt := Lib.hid (show fitS d ⟨rk,T.data.toList,ra,rb,rm⟩ = (applyD d ⟨rk,T.data.toList,ra,rb,rm⟩ (recD T.data.toList [] 1)).getD d from if_pos (by rw [HTs.out]; exact h140))
           have CA := Lib.hid (fun W (hW : Below wr.heap.size wr W) => (show Calls Tryz.prog 11 #[.agg #[.string N,.bool on,.bool np,.slice qh nh ch,.int .u64 mm,.slice qk nk ck,.slice qc nc cc],.agg #[.int .u8 (rk : Int),.string T,.bool ra,.bool rb,.int .u64 (rm : Int)],.slice none 0 0,.int .i64 1] W (AnsUB (UP.at_ ⟨N,on,np,qh,nh,ch,mm,qk,nk,ck,qc,nc,cc,d⟩) (fitS d ⟨rk,T.data.toList,ra,rb,rm⟩) (applyD d ⟨rk,T.data.toList,ra,rb,rm⟩ (recD T.data.toList [] 1)).isSome W) from by
            rw [HSt.out]
            exact apply_any ⟨N,on,np,qh,nh,ch,mm,qk,nk,ck,qc,nc,cc,d⟩ rk rm T ra rb none 0 0 [] 1 W (HF.out.ip.keep hW) (by omega) HLj.out.2 HLj.out.1 (few_of HRt.out.hl HRt.out.kl HRt.out.cl) (fun h => absurd h (by simp)) rfl (fun _ => rfl)))
           go_wp2_with fail
           go_region_law (go_simp; (with_reducible refine (CA.out _ (by first | exact Below.refl _ _ | exact (Below.refl _ _).drew)).mono ?_); rintro e w5 ⟨po,rfl,hU5,hd5,ha5,hb5⟩
                          have hb5' : Below wr.heap.size wr w5 := by first | exact hb5 | exact (Below.refl wr.heap.size wr).drew.trans hb5
                          obtain ⟨N2,on2,np2,qh2,nh2,ch2,mm2,qk2,nk2,ck2,qc2,nc2,cc2,dd⟩ := po
                          dsimp only [UP.agg]
                          have HF5 := Lib.hid (HF.out.keep hb5')
                          have HU5 := Lib.hid hU5
                          have HD5 := Lib.hid (show dd = _ from hd5)
                          have HA5 := Lib.hid (show ∀ k,UP.at_ ⟨N2,on2,np2,qh2,nh2,ch2,mm2,qk2,nk2,ck2,qc2,nc2,cc2,dd⟩ k → w.heap.size + 1 < k from fun k hk => (ha5 k hk).elim (fun h => HF.out.at_ k h) (fun h => Nat.lt_of_lt_of_le HF.out.lt h))
                          obtain ⟨z0,z1,z2,z3,z4,z5,z6⟩ := u_cells HF5.out.b7
                          have fz := fun j => frozen_of_row _ _ j _ _ HF5.out.b7
                          have f0 := fz 0
                          have f1 := fz 1
                          have f2 := fz 2
                          have f3 := fz 3
                          have f4 := fz 4
                          have f5 := fz 5
                          have f6 := fz 6
                          clear hU5 hd5 ha5 hb5 hb5' fz)
           all_goals
            have HP := Lib.hid (FB.put HF5.out HU5.out HA5.out)
            have HD6 := Lib.hid (show dd = (L.take (j + 1)).foldl fitS (newU (nameD s.data.toList)) by rw [HD5.out,HTk.out])
            simp only [set7] at HP
            clear x0 x1 x2 x3 x4 x5 x6 z0 z1 z2 z3 z4 z5 z6 f0 f1 f2 f3 f4 f5 f6 v0 v1 v2 v3 v4 HF5 HU5 HD5 HA5 CA HF HD
            generalize World.setCell _ _ _ = w6 at HP ⊢
            go_wp2_with fail
            go_roundw
            case rel => exact ⟨j + 1,_,by omega,by omega,by go_num,HP,HD6⟩
            case measure => simp [intOf]; omega
         · have d3 : decide ((T.size : Int) ≤ 140) = false := decide_eq_false (by omega)
           have HSt := Lib.hid (show fitS d ⟨rk,T.data.toList,ra,rb,rm⟩ = d from if_neg (by rw [HTs.out]; exact h140))
           have HD6 := Lib.hid (show d = (L.take (j + 1)).foldl fitS (newU (nameD s.data.toList)) by rw [HTk.out,HSt.out])
           clear x0 x1 x2 x3 x4 x5 x6 HD v0 v2 v3 v4
           go_wp2_with fail
           go_roundw
           case rel => exact ⟨j + 1,_,by omega,by omega,by go_num,HF,HD6⟩
           case measure => simp [intOf]; omega
       · have HTk := Lib.hid (show L.take j = L.take 20 by
          by_cases h20 : j = 20
          · rw [h20]
          · rw [List.take_of_length_le (by rw [HN.out]; omega),List.take_of_length_le (by rw [HN.out]; omega)])
         have HDf := Lib.hid (show fitD s.data.toList L = d by unfold fitD; rw [← HTk.out]; exact HD.out.symm)
         have HCs := Lib.hid (ucs_size ⟨N,on,np,qh,nh,ch,mm,qk,nk,ck,qc,nc,cc,d⟩)
         have HOn := Lib.hid (user_one N on np qh qk qc nh ch nk ck nc cc mm)
         simp only [ucs] at HCs
         have hend : AnsU (fun _ => False) (fitD s.data.toList L) w (.returned (.agg #[.string N,.bool on,.bool np,.slice qh nh ch,.int .u64 mm,.slice qk nk ck,.slice qc nc cc])) (wr.setRow w.heap.size #[.string N,.bool on,.bool np,.slice qh nh ch,.int .u64 mm,.slice qk nk ck,.slice qc nc cc]) := by
          rw [HDf.out]
          exact HF.out.fin
         have HEnd := Lib.hid hend
         clear hend HD HTk HDf
         by_cases hjn : j < n
         · have d1 : decide ((j : Int) < (n : Int)) = true := decide_eq_true (by omega)
           have d2b : ¬ ((j : Int) < 20) := by omega
           have d2 : decide ((j : Int) < 20) = false := decide_eq_false d2b
           go_wp2_with (with_reducible refine wpList_store_row rfl 26 (.tmp 4) (.tmp 67) rfl w.heap.size #[.string N,.bool on,.bool np,.slice qh nh ch,.int .u64 mm,.slice qk nk ck,.slice qc nc cc] rfl rfl 26 _ HF.out.b4 HCs.out rfl HOn.out ?_)
           exact bodyPost_ret (results_cell_row rfl _ _ w.heap.size 26 #[.string N,.bool on,.bool np,.slice qh nh ch,.int .u64 mm,.slice qk nk ck,.slice qc nc cc] (0,0) _ rfl (setRow_heap _ w.heap.size _ _ _ _ HF.out.b4) Tryz.underlying26 rfl HCs.out) rfl HEnd.out
         · have d1b : ¬ ((j : Int) < (n : Int)) := by omega
           have d1 : decide ((j : Int) < (n : Int)) = false := decide_eq_false d1b
           go_wp2_with (with_reducible refine wpList_store_row rfl 26 (.tmp 4) (.tmp 67) rfl w.heap.size #[.string N,.bool on,.bool np,.slice qh nh ch,.int .u64 mm,.slice qk nk ck,.slice qc nc cc] rfl rfl 26 _ HF.out.b4 HCs.out rfl HOn.out ?_)
           exact bodyPost_ret (results_cell_row rfl _ _ w.heap.size 26 #[.string N,.bool on,.bool np,.slice qh nh ch,.int .u64 mm,.slice qk nk ck,.slice qc nc cc] (0,0) _ rfl (setRow_heap _ w.heap.size _ _ _ _ HF.out.b4) Tryz.underlying26 rfl HCs.out) rfl HEnd.out
    · have HNm0 : X.data.toList = nameD s.data.toList := by rw [name_of HE.out,if_neg hne]
      have he : X.toList.isEmpty = false := by rw [ByteArray.toList_eq]; simpa using hne
      by_cases hks : k < s.size
      · have d1 : decide ((k : Int) < (s.size : Int)) = true := decide_eq_true (by omega)
        have n2 : ¬ X.size < 12 := fun h => hgo ⟨hks,h⟩
        have n3 : ¬ ((X.size : Int) < 12) := by omega
        have d2 : decide ((X.size : Int) < 12) = false := decide_eq_false n3
        clear hgo hne
        have HNm := Lib.hid (show (X : ByteArray).data.toList = nameD s.data.toList from HNm0)
        clear HNm0 HX HE HXs
        have HF0 := Lib.hid (FB.new w X)
        have HRg := Lib.hid (right_new (name_word s.data.toList).1 (Nat.le_trans (name_word s.data.toList).2 (by decide)))
        simp only [ucs,newP] at HF0
        go_upto_region 10 with fail
        generalize (w.alloc _).alloc _ = w1 at HF0 ⊢
        go_wp2_with fail
        go_loopw [8] (fun i wr => ∃ (j : Nat) (p : UP),j ≤ n ∧ j ≤ 20 ∧ i = .int .i64 j ∧ Hid (FB w p wr) ∧ Hid (p.d = (L.take j).foldl fitS (newU (nameD s.data.toList)))) (fun i _ => n - (intOf i).toNat)
        case atStart => exact ⟨0,newP X,Nat.zero_le _,Nat.zero_le _,rfl,HF0,Lib.hid (by show newU _ = _; rw [HNm.out]; rfl)⟩
        case round =>
         clear HF0
         obtain ⟨j,p,hj,hj20,rfl,HF,HD⟩ := hrel
         have HRt := Lib.hid (show RightU p.d by rw [HD.out]; exact fit_fold _ _ HRg.out)
         obtain ⟨N,on,np,qh,nh,ch,mm,qk,nk,ck,qc,nc,cc,d⟩ := p
         obtain ⟨x0,x1,x2,x3,x4,x5,x6⟩ := u_cells HF.out.b7
         by_cases hgo : j < n ∧ j < 20
         · obtain ⟨hlt,h20⟩ := hgo
           have d1 : decide ((j : Int) < (n : Int)) = true := decide_eq_true (by omega)
           have d2 : decide ((j : Int) < 20) = true := decide_eq_true (by omega)
           have j0 : (0 : Int) ≤ (j : Int) := by omega
           have j1 : (j : Int) < (n : Int) := by omega
           have hjl : j < L.length := by rw [HN.out]; exact hlt
           have HTk := Lib.hid (show (L.take (j + 1)).foldl fitS (newU (nameD s.data.toList)) = fitS d L[j] by
            rw [List.take_succ_eq_append_getElem hjl,List.foldl_append,← HD.out]
            rfl)
           have HLj := Lib.hid (HL.out _ (List.getElem_mem hjl))
           obtain ⟨b,off,rfl,hbl,v0,v1,v2,v3,v4⟩ := rule_cells (HR.out.keep HF.out.bel) j hjl
           obtain ⟨r,hr⟩ : ∃ r,r = L[j] := ⟨_,rfl⟩
           rw [← hr] at HTk HLj v0 v1 v2 v3 v4
           clear hr hbl
           obtain ⟨rk,rs,ra,rb,rm⟩ := r
           simp only at v0 v1 v2 v3 v4
           obtain ⟨T,hT⟩ : ∃ T : ByteArray,T = ⟨rs.toArray⟩ := ⟨_,rfl⟩
           rw [← hT] at v1
           obtain rfl : rs = T.data.toList := by rw [hT]
           clear hT
           have HTs := Lib.hid (size_dl (s := T))
           by_cases h140 : T.size ≤ 140
           · have d3 : decide ((T.size : Int) ≤ 140) = true := decide_eq_true (by omega)
             have HSt := Lib.hid (show fitS d ⟨rk,T.data.toList,ra,rb,rm⟩ = (applyD d ⟨rk,T.data.toList,ra,rb,rm⟩ (recD T.data.toList [] 1)).getD d from if_pos (by rw [HTs.out]; exact h140))
             have CA := Lib.hid (fun W (hW : Below wr.heap.size wr W) => (show Calls Tryz.prog 11 #[.agg #[.string N,.bool on,.bool np,.slice qh nh ch,.int .u64 mm,.slice qk nk ck,.slice qc nc cc],.agg #[.int .u8 (rk : Int),.string T,.bool ra,.bool rb,.int .u64 (rm : Int)],.slice none 0 0,.int .i64 1] W (AnsUB (UP.at_ ⟨N,on,np,qh,nh,ch,mm,qk,nk,ck,qc,nc,cc,d⟩) (fitS d ⟨rk,T.data.toList,ra,rb,rm⟩) (applyD d ⟨rk,T.data.toList,ra,rb,rm⟩ (recD T.data.toList [] 1)).isSome W) from by
              rw [HSt.out]
              exact apply_any ⟨N,on,np,qh,nh,ch,mm,qk,nk,ck,qc,nc,cc,d⟩ rk rm T ra rb none 0 0 [] 1 W (HF.out.ip.keep hW) (by omega) HLj.out.2 HLj.out.1 (few_of HRt.out.hl HRt.out.kl HRt.out.cl) (fun h => absurd h (by simp)) rfl (fun _ => rfl)))
             go_wp2_with fail
             go_region_law (go_simp; (with_reducible refine (CA.out _ (by first | exact Below.refl _ _ | exact (Below.refl _ _).drew)).mono ?_); rintro e w5 ⟨po,rfl,hU5,hd5,ha5,hb5⟩
                            have hb5' : Below wr.heap.size wr w5 := by first | exact hb5 | exact (Below.refl wr.heap.size wr).drew.trans hb5
                            obtain ⟨N2,on2,np2,qh2,nh2,ch2,mm2,qk2,nk2,ck2,qc2,nc2,cc2,dd⟩ := po
                            dsimp only [UP.agg]
                            have HF5 := Lib.hid (HF.out.keep hb5')
                            have HU5 := Lib.hid hU5
                            have HD5 := Lib.hid (show dd = _ from hd5)
                            have HA5 := Lib.hid (show ∀ k,UP.at_ ⟨N2,on2,np2,qh2,nh2,ch2,mm2,qk2,nk2,ck2,qc2,nc2,cc2,dd⟩ k → w.heap.size + 1 < k from fun k hk => (ha5 k hk).elim (fun h => HF.out.at_ k h) (fun h => Nat.lt_of_lt_of_le HF.out.lt h))
                            obtain ⟨z0,z1,z2,z3,z4,z5,z6⟩ := u_cells HF5.out.b7
                            have fz := fun j => frozen_of_row _ _ j _ _ HF5.out.b7
                            have f0 := fz 0
                            have f1 := fz 1
                            have f2 := fz 2
                            have f3 := fz 3
                            have f4 := fz 4
                            have f5 := fz 5
                            have f6 := fz 6
                            clear hU5 hd5 ha5 hb5 hb5' fz)
             all_goals
              have HP := Lib.hid (FB.put HF5.out HU5.out HA5.out)
              have HD6 := Lib.hid (show dd = (L.take (j + 1)).foldl fitS (newU (nameD s.data.toList)) by rw [HD5.out,HTk.out])
              simp only [set7] at HP
              clear x0 x1 x2 x3 x4 x5 x6 z0 z1 z2 z3 z4 z5 z6 f0 f1 f2 f3 f4 f5 f6 v0 v1 v2 v3 v4 HF5 HU5 HD5 HA5 CA HF HD
              generalize World.setCell _ _ _ = w6 at HP ⊢
              go_wp2_with fail
              go_roundw
              case rel => exact ⟨j + 1,_,by omega,by omega,by go_num,HP,HD6⟩
              case measure => simp [intOf]; omega
           · have d3 : decide ((T.size : Int) ≤ 140) = false := decide_eq_false (by omega)
             have HSt := Lib.hid (show fitS d ⟨rk,T.data.toList,ra,rb,rm⟩ = d from if_neg (by rw [HTs.out]; exact h140))
             have HD6 := Lib.hid (show d = (L.take (j + 1)).foldl fitS (newU (nameD s.data.toList)) by rw [HTk.out,HSt.out])
             clear x0 x1 x2 x3 x4 x5 x6 HD v0 v2 v3 v4
             go_wp2_with fail
             go_roundw
             case rel => exact ⟨j + 1,_,by omega,by omega,by go_num,HF,HD6⟩
             case measure => simp [intOf]; omega
         · have HTk := Lib.hid (show L.take j = L.take 20 by
            by_cases h20 : j = 20
            · rw [h20]
            · rw [List.take_of_length_le (by rw [HN.out]; omega),List.take_of_length_le (by rw [HN.out]; omega)])
           have HDf := Lib.hid (show fitD s.data.toList L = d by unfold fitD; rw [← HTk.out]; exact HD.out.symm)
           have HCs := Lib.hid (ucs_size ⟨N,on,np,qh,nh,ch,mm,qk,nk,ck,qc,nc,cc,d⟩)
           have HOn := Lib.hid (user_one N on np qh qk qc nh ch nk ck nc cc mm)
           simp only [ucs] at HCs
           have hend : AnsU (fun _ => False) (fitD s.data.toList L) w (.returned (.agg #[.string N,.bool on,.bool np,.slice qh nh ch,.int .u64 mm,.slice qk nk ck,.slice qc nc cc])) (wr.setRow w.heap.size #[.string N,.bool on,.bool np,.slice qh nh ch,.int .u64 mm,.slice qk nk ck,.slice qc nc cc]) := by
            rw [HDf.out]
            exact HF.out.fin
           have HEnd := Lib.hid hend
           clear hend HD HTk HDf
           by_cases hjn : j < n
           · have d1 : decide ((j : Int) < (n : Int)) = true := decide_eq_true (by omega)
             have d2b : ¬ ((j : Int) < 20) := by omega
             have d2 : decide ((j : Int) < 20) = false := decide_eq_false d2b
             go_wp2_with (with_reducible refine wpList_store_row rfl 26 (.tmp 4) (.tmp 67) rfl w.heap.size #[.string N,.bool on,.bool np,.slice qh nh ch,.int .u64 mm,.slice qk nk ck,.slice qc nc cc] rfl rfl 26 _ HF.out.b4 HCs.out rfl HOn.out ?_)
             exact bodyPost_ret (results_cell_row rfl _ _ w.heap.size 26 #[.string N,.bool on,.bool np,.slice qh nh ch,.int .u64 mm,.slice qk nk ck,.slice qc nc cc] (0,0) _ rfl (setRow_heap _ w.heap.size _ _ _ _ HF.out.b4) Tryz.underlying26 rfl HCs.out) rfl HEnd.out
           · have d1b : ¬ ((j : Int) < (n : Int)) := by omega
             have d1 : decide ((j : Int) < (n : Int)) = false := decide_eq_false d1b
             go_wp2_with (with_reducible refine wpList_store_row rfl 26 (.tmp 4) (.tmp 67) rfl w.heap.size #[.string N,.bool on,.bool np,.slice qh nh ch,.int .u64 mm,.slice qk nk ck,.slice qc nc cc] rfl rfl 26 _ HF.out.b4 HCs.out rfl HOn.out ?_)
             exact bodyPost_ret (results_cell_row rfl _ _ w.heap.size 26 #[.string N,.bool on,.bool np,.slice qh nh ch,.int .u64 mm,.slice qk nk ck,.slice qc nc cc] (0,0) _ rfl (setRow_heap _ w.heap.size _ _ _ _ HF.out.b4) Tryz.underlying26 rfl HCs.out) rfl HEnd.out
      · have d1b : ¬ ((k : Int) < (s.size : Int)) := by omega
        have d1 : decide ((k : Int) < (s.size : Int)) = false := decide_eq_false d1b
        clear hgo hne
        have HNm := Lib.hid (show (X : ByteArray).data.toList = nameD s.data.toList from HNm0)
        clear HNm0 HX HE HXs
        have HF0 := Lib.hid (FB.new w X)
        have HRg := Lib.hid (right_new (name_word s.data.toList).1 (Nat.le_trans (name_word s.data.toList).2 (by decide)))
        simp only [ucs,newP] at HF0
        go_upto_region 10 with fail
        generalize (w.alloc _).alloc _ = w1 at HF0 ⊢
        go_wp2_with fail
        go_loopw [8] (fun i wr => ∃ (j : Nat) (p : UP),j ≤ n ∧ j ≤ 20 ∧ i = .int .i64 j ∧ Hid (FB w p wr) ∧ Hid (p.d = (L.take j).foldl fitS (newU (nameD s.data.toList)))) (fun i _ => n - (intOf i).toNat)
        case atStart => exact ⟨0,newP X,Nat.zero_le _,Nat.zero_le _,rfl,HF0,Lib.hid (by show newU _ = _; rw [HNm.out]; rfl)⟩
        case round =>
         clear HF0
         obtain ⟨j,p,hj,hj20,rfl,HF,HD⟩ := hrel
         have HRt := Lib.hid (show RightU p.d by rw [HD.out]; exact fit_fold _ _ HRg.out)
         obtain ⟨N,on,np,qh,nh,ch,mm,qk,nk,ck,qc,nc,cc,d⟩ := p
         obtain ⟨x0,x1,x2,x3,x4,x5,x6⟩ := u_cells HF.out.b7
         by_cases hgo : j < n ∧ j < 20
         · obtain ⟨hlt,h20⟩ := hgo
           have d1 : decide ((j : Int) < (n : Int)) = true := decide_eq_true (by omega)
           have d2 : decide ((j : Int) < 20) = true := decide_eq_true (by omega)
           have j0 : (0 : Int) ≤ (j : Int) := by omega
           have j1 : (j : Int) < (n : Int) := by omega
           have hjl : j < L.length := by rw [HN.out]; exact hlt
           have HTk := Lib.hid (show (L.take (j + 1)).foldl fitS (newU (nameD s.data.toList)) = fitS d L[j] by
            rw [List.take_succ_eq_append_getElem hjl,List.foldl_append,← HD.out]
            rfl)
           have HLj := Lib.hid (HL.out _ (List.getElem_mem hjl))
           obtain ⟨b,off,rfl,hbl,v0,v1,v2,v3,v4⟩ := rule_cells (HR.out.keep HF.out.bel) j hjl
           obtain ⟨r,hr⟩ : ∃ r,r = L[j] := ⟨_,rfl⟩
           rw [← hr] at HTk HLj v0 v1 v2 v3 v4
           clear hr hbl
           obtain ⟨rk,rs,ra,rb,rm⟩ := r
           simp only at v0 v1 v2 v3 v4
           obtain ⟨T,hT⟩ : ∃ T : ByteArray,T = ⟨rs.toArray⟩ := ⟨_,rfl⟩
           rw [← hT] at v1
           obtain rfl : rs = T.data.toList := by rw [hT]
           clear hT
           have HTs := Lib.hid (size_dl (s := T))
           by_cases h140 : T.size ≤ 140
           · have d3 : decide ((T.size : Int) ≤ 140) = true := decide_eq_true (by omega)
             have HSt := Lib.hid (show fitS d ⟨rk,T.data.toList,ra,rb,rm⟩ = (applyD d ⟨rk,T.data.toList,ra,rb,rm⟩ (recD T.data.toList [] 1)).getD d from if_pos (by rw [HTs.out]; exact h140))
             have CA := Lib.hid (fun W (hW : Below wr.heap.size wr W) => (show Calls Tryz.prog 11 #[.agg #[.string N,.bool on,.bool np,.slice qh nh ch,.int .u64 mm,.slice qk nk ck,.slice qc nc cc],.agg #[.int .u8 (rk : Int),.string T,.bool ra,.bool rb,.int .u64 (rm : Int)],.slice none 0 0,.int .i64 1] W (AnsUB (UP.at_ ⟨N,on,np,qh,nh,ch,mm,qk,nk,ck,qc,nc,cc,d⟩) (fitS d ⟨rk,T.data.toList,ra,rb,rm⟩) (applyD d ⟨rk,T.data.toList,ra,rb,rm⟩ (recD T.data.toList [] 1)).isSome W) from by
              rw [HSt.out]
              exact apply_any ⟨N,on,np,qh,nh,ch,mm,qk,nk,ck,qc,nc,cc,d⟩ rk rm T ra rb none 0 0 [] 1 W (HF.out.ip.keep hW) (by omega) HLj.out.2 HLj.out.1 (few_of HRt.out.hl HRt.out.kl HRt.out.cl) (fun h => absurd h (by simp)) rfl (fun _ => rfl)))
             go_wp2_with fail
             go_region_law (go_simp; (with_reducible refine (CA.out _ (by first | exact Below.refl _ _ | exact (Below.refl _ _).drew)).mono ?_); rintro e w5 ⟨po,rfl,hU5,hd5,ha5,hb5⟩
                            have hb5' : Below wr.heap.size wr w5 := by first | exact hb5 | exact (Below.refl wr.heap.size wr).drew.trans hb5
                            obtain ⟨N2,on2,np2,qh2,nh2,ch2,mm2,qk2,nk2,ck2,qc2,nc2,cc2,dd⟩ := po
                            dsimp only [UP.agg]
                            have HF5 := Lib.hid (HF.out.keep hb5')
                            have HU5 := Lib.hid hU5
                            have HD5 := Lib.hid (show dd = _ from hd5)
                            have HA5 := Lib.hid (show ∀ k,UP.at_ ⟨N2,on2,np2,qh2,nh2,ch2,mm2,qk2,nk2,ck2,qc2,nc2,cc2,dd⟩ k → w.heap.size + 1 < k from fun k hk => (ha5 k hk).elim (fun h => HF.out.at_ k h) (fun h => Nat.lt_of_lt_of_le HF.out.lt h))
                            obtain ⟨z0,z1,z2,z3,z4,z5,z6⟩ := u_cells HF5.out.b7
                            have fz := fun j => frozen_of_row _ _ j _ _ HF5.out.b7
                            have f0 := fz 0
                            have f1 := fz 1
                            have f2 := fz 2
                            have f3 := fz 3
                            have f4 := fz 4
                            have f5 := fz 5
                            have f6 := fz 6
                            clear hU5 hd5 ha5 hb5 hb5' fz)
             all_goals
              have HP := Lib.hid (FB.put HF5.out HU5.out HA5.out)
              have HD6 := Lib.hid (show dd = (L.take (j + 1)).foldl fitS (newU (nameD s.data.toList)) by rw [HD5.out,HTk.out])
              simp only [set7] at HP
              clear x0 x1 x2 x3 x4 x5 x6 z0 z1 z2 z3 z4 z5 z6 f0 f1 f2 f3 f4 f5 f6 v0 v1 v2 v3 v4 HF5 HU5 HD5 HA5 CA HF HD
              generalize World.setCell _ _ _ = w6 at HP ⊢
              go_wp2_with fail
              go_roundw
              case rel => exact ⟨j + 1,_,by omega,by omega,by go_num,HP,HD6⟩
              case measure => simp [intOf]; omega
           · have d3 : decide ((T.size : Int) ≤ 140) = false := decide_eq_false (by omega)
             have HSt := Lib.hid (show fitS d ⟨rk,T.data.toList,ra,rb,rm⟩ = d from if_neg (by rw [HTs.out]; exact h140))
             have HD6 := Lib.hid (show d = (L.take (j + 1)).foldl fitS (newU (nameD s.data.toList)) by rw [HTk.out,HSt.out])
             clear x0 x1 x2 x3 x4 x5 x6 HD v0 v2 v3 v4
             go_wp2_with fail
             go_roundw
             case rel => exact ⟨j + 1,_,by omega,by omega,by go_num,HF,HD6⟩
             case measure => simp [intOf]; omega
         · have HTk := Lib.hid (show L.take j = L.take 20 by
            by_cases h20 : j = 20
            · rw [h20]
            · rw [List.take_of_length_le (by rw [HN.out]; omega),List.take_of_length_le (by rw [HN.out]; omega)])
           have HDf := Lib.hid (show fitD s.data.toList L = d by unfold fitD; rw [← HTk.out]; exact HD.out.symm)
           have HCs := Lib.hid (ucs_size ⟨N,on,np,qh,nh,ch,mm,qk,nk,ck,qc,nc,cc,d⟩)
           have HOn := Lib.hid (user_one N on np qh qk qc nh ch nk ck nc cc mm)
           simp only [ucs] at HCs
           have hend : AnsU (fun _ => False) (fitD s.data.toList L) w (.returned (.agg #[.string N,.bool on,.bool np,.slice qh nh ch,.int .u64 mm,.slice qk nk ck,.slice qc nc cc])) (wr.setRow w.heap.size #[.string N,.bool on,.bool np,.slice qh nh ch,.int .u64 mm,.slice qk nk ck,.slice qc nc cc]) := by
            rw [HDf.out]
            exact HF.out.fin
           have HEnd := Lib.hid hend
           clear hend HD HTk HDf
           by_cases hjn : j < n
           · have d1 : decide ((j : Int) < (n : Int)) = true := decide_eq_true (by omega)
             have d2b : ¬ ((j : Int) < 20) := by omega
             have d2 : decide ((j : Int) < 20) = false := decide_eq_false d2b
             go_wp2_with (with_reducible refine wpList_store_row rfl 26 (.tmp 4) (.tmp 67) rfl w.heap.size #[.string N,.bool on,.bool np,.slice qh nh ch,.int .u64 mm,.slice qk nk ck,.slice qc nc cc] rfl rfl 26 _ HF.out.b4 HCs.out rfl HOn.out ?_)
             exact bodyPost_ret (results_cell_row rfl _ _ w.heap.size 26 #[.string N,.bool on,.bool np,.slice qh nh ch,.int .u64 mm,.slice qk nk ck,.slice qc nc cc] (0,0) _ rfl (setRow_heap _ w.heap.size _ _ _ _ HF.out.b4) Tryz.underlying26 rfl HCs.out) rfl HEnd.out
           · have d1b : ¬ ((j : Int) < (n : Int)) := by omega
             have d1 : decide ((j : Int) < (n : Int)) = false := decide_eq_false d1b
             go_wp2_with (with_reducible refine wpList_store_row rfl 26 (.tmp 4) (.tmp 67) rfl w.heap.size #[.string N,.bool on,.bool np,.slice qh nh ch,.int .u64 mm,.slice qk nk ck,.slice qc nc cc] rfl rfl 26 _ HF.out.b4 HCs.out rfl HOn.out ?_)
             exact bodyPost_ret (results_cell_row rfl _ _ w.heap.size 26 #[.string N,.bool on,.bool np,.slice qh nh ch,.int .u64 mm,.slice qk nk ck,.slice qc nc cc] (0,0) _ rfl (setRow_heap _ w.heap.size _ _ _ _ HF.out.b4) Tryz.underlying26 rfl HCs.out) rfl HEnd.out
end Go.Proofs.YtpoinibckmbfcaaGreatDoor.RefUser
namespace Go.Proofs.YtpoinibckmbfcaaGreatDoor.UserM
open Go.RowKit Kit StrT RowG RuleT UserT UserR TableMath Low ValT RefUser
open Go.Sort (grow)
open RefRule (results_cell_slot)
set_option linter.unusedVariables false
set_option maxRecDepth 100000
def chD (u : UV) (r : RV) (rec : Option (List UInt8)) : Option UV := if r.kind = 5 then rec.map (setU u r) else some (setU u r [])
theorem apply_chD (u : UV) (r : RV) (rec : Option (List UInt8)) (hr : rightR r = true) : applyD u r rec = (chD u r rec).bind fun v => if fewB v then some v else none := by
 unfold applyD chD
 rw [if_pos hr]
 by_cases h5 : r.kind = 5
 · rw [if_pos h5,if_pos h5]
   cases rec <;> rfl
 · rw [if_neg h5,if_neg h5]
   rfl
theorem chg_any (w0 w : World) (p : UP) (k m : Nat) (T : ByteArray) (a b : Bool) (sq : Option Addr) (sn sc : Nat) (salt : List UInt8) (n : Int) (h : UO w0 w p) (hm : m < 18446744073709551616) (hf : p.nh ≤ 64 ∧ p.nk ≤ 64 ∧ p.nc ≤ 64) (hr : rightR ⟨k,T.data.toList,a,b,m⟩ = true) (hg : Gu w) (hz : T.size ≤ 1048576) (hs : ShaT.Bs w sq salt) (hsn : salt.length = sn) :
  ChG w0 w p (k : Int) T a b (m : Int) sq sn sc n (chD p.d ⟨k,T.data.toList,a,b,m⟩ (recD T.data.toList salt n)) := by
 have h14 := kind_of hr
 simp only at h14
 match k,h14 with
 | 1,_ => exact ch_1 w0 w p m T a b sq sn sc n h hm hf
 | 2,_ => exact ch_2 w0 w p m T a b sq sn sc n h hm hf
 | 3,_ => exact ch_3 w0 w p m T a b sq sn sc n h hm hf
 | 4,_ => exact ch_4 w0 w p m T a b sq sn sc n h hm hf
 | 5,_ =>
   show ChG w0 w p 5 T a b (m : Int) sq sn sc n ((recD T.data.toList salt n).map (setU p.d ⟨5,T.data.toList,a,b,m⟩))
   by_cases hn : 1 ≤ n ∧ n ≤ 64
   · by_cases hl : salt.length ≤ 32
     · rw [show recD T.data.toList salt n = some (MacM.recL n salt (MacM.derL T.data.toList salt n)) from if_pos ⟨hn,hl⟩]
       obtain ⟨r,rfl⟩ := Int.eq_ofNat_of_zero_le (show (0 : Int) ≤ n by omega)
       exact ch_5 w0 w p m T a b sq sn sc (r : Int) h hm hf ⟨(MacM.recL r salt (MacM.derL T.data.toList salt r)).toArray⟩ _ rfl (fun W hW => MacT.record_yes T sq salt sn sc r W (by omega) (by omega) (by omega) hsn (hs.keep hW) (by omega) (hg.t.keep hW) (hg.n.keep hW))
     · rw [show recD T.data.toList salt n = none from if_neg (fun e => hl e.2)]
       exact ch_5n w0 w p m T a b sq sn sc n h hm hf ⟨#[]⟩ (fun W hW => MacT.record_salt T sq sn sc n W hn (by omega))
   · rw [show recD T.data.toList salt n = none from if_neg (fun e => hn e.1)]
     exact ch_5n w0 w p m T a b sq sn sc n h hm hf ⟨#[]⟩ (fun W hW => MacT.record_fit T sq sn sc n W hn)
 | 6,_ => exact ch_6 w0 w p m T a b sq sn sc n h hm hf
 | 7,_ => exact ch_7 w0 w p m T a b sq sn sc n h hm hf
 | 8,_ => exact ch_8 w0 w p m T a b sq sn sc n h hm hf
 | 9,_ => exact ch_9 w0 w p m T a b sq sn sc n h hm hf
 | 10,_ => exact ch_10 w0 w p m T a b sq sn sc n h hm hf
 | 11,_ => exact ch_11 w0 w p m T a b sq sn sc n h hm hf
 | 12,_ => exact ch_12 w0 w p m T a b sq sn sc n h hm hf
 | 13,_ => exact ch_13 w0 w p m T a b sq sn sc n h hm hf
 | 14,_ => exact ch_14 w0 w p m T a b sq sn sc n h hm hf
 | k + 15,h14 => omega
structure Chd (w : World) (p : UP) (r : Array Value) (o : Option UV) (g : Nat) (p2 : UP) (wx : World) : Prop where
 ab : AB w p r wx
 gt : w.heap.size + 2 < g
 bo : wx.heap[g]? = some (.cells (ucs p2) 26 (0,0))
 ok : ∀ d,o = some d → p2.d = d ∧ UIn wx p2 ∧ ∀ k,p2.at_ k → w.heap.size + 2 < k
theorem chd_last {w wr wX : World} {p p2 : UP} {r : Array Value} {o : Option UV} (h : AB w p r wr) (hb : Below wr.heap.size wr wX) (hd : ∀ d,o = some d → p2.d = d ∧ UIn wX p2 ∧ ∀ k,p2.at_ k → wr.heap.size ≤ k ∧ RowTy wX k) : Chd w p r o wX.heap.size p2 (wX.alloc (.cells (ucs p2) 26)) := by
 have h2 := h.keep hb
 have hl := h2.lt
 have hl1 := h.lt
 refine ⟨h2.keep (Kit.below1 _ _),hl,heap_alloc_last _ _,fun d e => ?_⟩
 obtain ⟨h3,h4,h5⟩ := hd d e
 exact ⟨h3,h4.keep (Kit.below1 _ _),fun k hk => by have := (h5 k hk).1; omega⟩
theorem chd_room {w wr wX : World} {p p2 : UP} {r : Array Value} {o : Option UV} {g : Nat} (h : AB w p r wr) (hb : Below wr.heap.size wr wX) (hg : wr.heap.size ≤ g) (hz : wX.heap[g]? = some (.cells ucs0 26 (0,0))) (hd : ∀ d,o = some d → p2.d = d ∧ UIn wX p2 ∧ ∀ k,p2.at_ k → wr.heap.size ≤ k ∧ RowTy wX k) :
  Chd w p r o g p2 (set7 wX g (.string p2.N) (.bool p2.on) (.bool p2.np) (.slice p2.qh p2.nh p2.ch) (.int .u64 p2.m) (.slice p2.qk p2.nk p2.ck) (.slice p2.qc p2.nc p2.cc)) := by
 have h2 := h.keep hb
 have hl := h.lt
 have ho : ∀ k,k ≠ g → (set7 wX g (.string p2.N) (.bool p2.on) (.bool p2.np) (.slice p2.qh p2.nh p2.ch) (.int .u64 p2.m) (.slice p2.qk p2.nk p2.ck) (.slice p2.qc p2.nc p2.cc)).heap[k]? = wX.heap[k]? := fun k hk => set7_other _ _ _ _ _ _ _ _ _ _ hk
 refine ⟨⟨set7_below h2.bel _ (by omega) _ _ _ _ _ _ _,by rw [ho _ (by omega)]; exact h2.bx,by rw [ho _ (by omega)]; exact h2.br,by rw [ho _ (by omega)]; exact h2.bz,h2.ip.same (by rw [set7_size]; exact Nat.le_refl _) (fun k hk => ho k (by have := h2.lp k hk; omega)),h2.lp⟩,by omega,set7_same _ _ _ _ _ _ _ _ _ _ _ _ _ _ _ _ hz,fun d e => ?_⟩
 obtain ⟨h3,h4,h5⟩ := hd d e
 exact ⟨h3,h4.same (by rw [set7_size]; exact Nat.le_refl _) (fun k hk => ho k ((h5 k hk).2.ne hz)),fun k hk => by have := (h5 k hk).1; omega⟩
end Go.Proofs.YtpoinibckmbfcaaGreatDoor.UserM
