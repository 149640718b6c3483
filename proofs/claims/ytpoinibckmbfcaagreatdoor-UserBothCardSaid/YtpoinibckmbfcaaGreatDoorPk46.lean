/-
  Packed by program.
-/
import Derived.Test.YtpoinibckmbfcaaGreatDoorPk45
import Derived.Test.YtpoinibckmbfcaaGreatDoorPk30
namespace Go.Proofs.YtpoinibckmbfcaaGreatDoor.UserM
open Go.RowKit Kit StrT RowG RuleT UserT UserR TableMath Low ValT RefUser
open Go.Sort (grow)
set_option linter.unusedVariables false
set_option maxRecDepth 100000
theorem word_le : ∀ (L : List (List UInt8)) (x : List UInt8),x ∈ L → x.length ≤ (joinW L).length
  | [],_,h => by cases h
  | [a],x,h => by
    rw [List.mem_singleton] at h
    rw [h]
    exact Nat.le_refl _
  | a :: b :: t,x,h => by
    have e : (joinW (a :: b :: t)).length = a.length + (1 + (joinW (b :: t)).length) := by
     rw [joinW]
     simp only [List.length_append,List.length_cons]
     omega
    rcases List.mem_cons.1 h with rfl | h
    · omega
    · have := word_le (b :: t) x h
      omega
theorem cmdsW_len (m : Nat) : (cmdsW m).length ≤ 57 := by
 unfold cmdsW
 split
 · decide
 · exact idsT_len m 56
theorem wordsD_is (d : UV) : wordsD d = (((([[117,115,101,114],d.name,if d.on then [111,110] else [111,102,102]] ++ (if d.np then [[110,111,112,97,115,115]] else [])) ++ d.hs.map (fun h => 35 :: h)) ++ d.ks.map (fun g => markL g ++ g.pat)) ++ d.cs.map (fun c => 38 :: c)) ++ cmdsW d.cmds := by
 unfold wordsD bodyW
 simp only [List.append_assoc,List.cons_append,List.nil_append]
theorem join_le (B : Nat) : ∀ L : List (List UInt8),(∀ x ∈ L,x.length ≤ B) → (joinW L).length ≤ L.length * (B + 1)
  | [],_ => Nat.zero_le _
  | [a],h => by
    have := h a (by simp)
    show a.length ≤ 1 * (B + 1)
    omega
  | a :: b :: t,h => by
    have e : (joinW (a :: b :: t)).length = a.length + (1 + (joinW (b :: t)).length) := by
     rw [joinW]
     simp only [List.length_append,List.length_cons]
     omega
    have h1 := h a (by simp)
    have h2 := join_le B (b :: t) (fun x hx => h x (List.mem_cons_of_mem _ hx))
    rw [e,List.length_cons,Nat.add_mul]
    omega
theorem words_len {d : UV} (hr : RightU d) : (wordsD d).length ≤ 300 := by
 rw [wordsD_is]
 have h1 : (if d.np then [[110,111,112,97,115,115]] else ([] : List (List UInt8))).length ≤ 1 := by split <;> simp
 have h2 := cmdsW_len d.cmds
 have h3 := hr.hl
 have h4 := hr.kl
 have h5 := hr.cl
 simp only [List.length_append,List.length_map,List.length_cons,List.length_nil]
 omega
set_option maxHeartbeats 16000000 in
theorem text_w (p : UP) (w : World) (hU : UIn w p) (hr : RightU p.d) (hw : ∀ x ∈ wordsD p.d,x.length ≤ 1048576) :
  Calls Tryz.prog 17 #[p.agg] w fun e w' => e = .returned (.string ⟨(textD p.d).toArray⟩) ∧ Below w.heap.size w w' := by
 obtain ⟨N,on0,np0,qh,nh,ch,mm,qk,nk,ck,qc,nc,cc,d⟩ := p
 have hX0 : RB w ⟨N,on0,np0,qh,nh,ch,mm,qk,nk,ck,qc,nc,cc,d⟩ (w.alloc (.cells #[.string N,.bool on0,.bool np0,.slice qh nh ch,.int .u64 mm,.slice qk nk ck,.slice qc nc cc] 26)) := RB.new hU
 have hN : N.data.toList = d.name := hU.en
 have hon : on0 = d.on := hU.eo
 have hnp : np0 = d.np := hU.ep
 have hmm : mm = (d.cmds : Int) := hU.em
 have hle : ∀ x ∈ wordsD d,x.length ≤ 1048576 := hw
 have CH : Hid (∀ W,Hid (RB w ⟨N,on0,np0,qh,nh,ch,mm,qk,nk,ck,qc,nc,cc,d⟩ W) → Calls Tryz.prog 49 #[.slice qh nh ch,.func (.func 50) #[] #[]] W fun e w' => ∃ q' c',e = .returned (.slice q' nh c') ∧ OwnR strE W.heap.size w' (.slice q' nh c') (d.hs.map (fun h => 35 :: h)) ∧ Below W.heap.size W w') := Lib.hid (fun W h => each_s 50 hash_x (fun h => 35 :: h) qh d.hs nh ch W h.out.ip.h (fun W' _ x X hx hX => by
  have h1 := hle (35 :: x) (by rw [wordsD_is]; simp only [List.mem_append]; exact Or.inl (Or.inl (Or.inl (Or.inr (List.mem_map.2 ⟨x,hx,rfl⟩)))))
  have h2 : X.data.toList.length = X.size := by simp
  rw [hX] at h2
  rw [List.length_cons] at h1
  have := hash_c X W' (by omega)
  rw [hX] at this
  exact this))
 have CK : Hid (∀ W,Hid (RB w ⟨N,on0,np0,qh,nh,ch,mm,qk,nk,ck,qc,nc,cc,d⟩ W) → Calls Tryz.prog 51 #[.slice qk nk ck,.func (.func 52) #[] #[]] W fun e w' => ∃ q' c',e = .returned (.slice q' nk c') ∧ OwnR strE W.heap.size w' (.slice q' nk c') (d.ks.map (fun g => markL g ++ g.pat)) ∧ Below W.heap.size W w') := Lib.hid (fun W h => each_g 52 keyw_x (fun g => markL g ++ g.pat) qk d.ks nk ck W h.out.ip.k (fun W' _ x X hx hX => by
  have h1 := hle (markL x ++ x.pat) (by rw [wordsD_is]; simp only [List.mem_append]; exact Or.inl (Or.inl (Or.inr (List.mem_map.2 ⟨x,hx,rfl⟩))))
  have h2 : X.data.toList.length = X.size := by simp
  rw [hX] at h2
  rw [List.length_append] at h1
  have := keyw_any X x.r x.w W' (by omega)
  rw [hX,keysWd_mark x (hr.ka x hx)] at this
  exact this))
 have CC : Hid (∀ W,Hid (RB w ⟨N,on0,np0,qh,nh,ch,mm,qk,nk,ck,qc,nc,cc,d⟩ W) → Calls Tryz.prog 49 #[.slice qc nc cc,.func (.func 53) #[] #[]] W fun e w' => ∃ q' c',e = .returned (.slice q' nc c') ∧ OwnR strE W.heap.size w' (.slice q' nc c') (d.cs.map (fun c => 38 :: c)) ∧ Below W.heap.size W w') := Lib.hid (fun W h => each_s 53 amp_x (fun c => 38 :: c) qc d.cs nc cc W h.out.ip.c (fun W' _ x X hx hX => by
  have h1 := hle (38 :: x) (by rw [wordsD_is]; simp only [List.mem_append]; exact Or.inl (Or.inr (List.mem_map.2 ⟨x,hx,rfl⟩)))
  have h2 : X.data.toList.length = X.size := by simp
  rw [hX] at h2
  rw [List.length_cons] at h1
  have := amp_c X W' (by omega)
  rw [hX] at this
  exact this))
 have CM : Hid (∀ W,Calls Tryz.prog 54 #[.int .u64 mm] W (AnsRow strE (cmdsW d.cmds) W)) := Lib.hid (fun W => by rw [hmm]; exact cmdw_any d.cmds hr.m W)
 have hln : nh ≤ 64 ∧ nk ≤ 64 ∧ nc ≤ 64 := by
  have h1 : d.hs.length = nh := hU.h.l
  have h2 : d.ks.length = nk := hU.k.l
  have h3 : d.cs.length = nc := hU.c.l
  have h4 : d.hs.length ≤ 64 := hr.hl
  have h5 : d.ks.length ≤ 64 := hr.kl
  have h6 : d.cs.length ≤ 64 := hr.cl
  omega
 have hlm := cmdsW_len d.cmds
 have hlh : (d.hs.map (fun h => 35 :: h)).length = nh := by rw [List.length_map]; exact hU.h.l
 have hlk : (d.ks.map (fun g => markL g ++ g.pat)).length = nk := by rw [List.length_map]; exact hU.k.l
 have hlc : (d.cs.map (fun c => 38 :: c)).length = nc := by rw [List.length_map]; exact hU.c.l
 have htx : textD d = joinW (((([[117,115,101,114],N.data.toList,if on0 then [111,110] else [111,102,102]] ++ (if np0 then [[110,111,112,97,115,115]] else []) ++ d.hs.map (fun h => 35 :: h)) ++ d.ks.map (fun g => markL g ++ g.pat)) ++ d.cs.map (fun c => 38 :: c)) ++ cmdsW d.cmds) := by
  rw [hN,hon,hnp]
  exact congrArg joinW (wordsD_is d)
 show Calls Tryz.prog 17 #[.agg #[.string N,.bool on0,.bool np0,.slice qh nh ch,.int .u64 mm,.slice qk nk ck,.slice qc nc cc]] w fun e w' => e = .returned (.string ⟨(textD d).toArray⟩) ∧ Below w.heap.size w w'
 have hz : (textD d).length ≤ 140737488355328 := by
  have h1 := join_le 1048576 (wordsD d) hle
  have h2 : (wordsD d).length * (1048576 + 1) ≤ 300 * (1048576 + 1) := Nat.mul_le_mul_right _ (words_len hr)
  show (joinW (wordsD d)).length ≤ _
  omega
 rw [htx] at hz
 rw [htx]
 have HJ := Lib.hid (fun (q : Option Addr) (L : List (List UInt8)) (n c : Nat) (W : World) (h : RowIn strE W q n c L) (hz : (joinW L).length ≤ 140737488355328) => join_told q L n c W h hz)
 generalize d.hs.map (fun h => 35 :: h) = Hs at CH hlh hz ⊢
 generalize d.ks.map (fun g => markL g ++ g.pat) = Ks at CK hlk hz ⊢
 generalize d.cs.map (fun c => 38 :: c) = Cs at CC hlc hz ⊢
 generalize cmdsW d.cmds = Ms at CM hlm hz ⊢
 have HNn := Lib.hid hln
 have HNl := Lib.hid (show Hs.length = nh ∧ Ks.length = nk ∧ Cs.length = nc ∧ Ms.length ≤ 57 from ⟨hlh,hlk,hlc,hlm⟩)
 have HZ := Lib.hid hz
 generalize hW1 : w.alloc (.cells #[.string N,.bool on0,.bool np0,.slice qh nh ch,.int .u64 mm,.slice qk nk ck,.slice qc nc cc] 26) = W1 at hX0
 have HX := Lib.hid hX0
 have HW1 := Lib.hid hW1
 have HLt := Lib.hid (fun (cs : Array Value) (L : List (List UInt8)) (hcs : cs = (flat strE L).toArray) (h3 : 3 = L.length) => ownR_lit strE W1.heap.size W1 (W1.alloc (.cells cs 9)) L cs W1.heap.size 3 hcs rfl h3 rfl (Nat.le_refl _) (by decide))
 have HNp := Lib.hid (fun (W : World) => rec_new strE W W.heap.size [110,111,112,97,115,115] #[.string ⟨#[110,111,112,97,115,115]⟩] rfl rfl)
 obtain ⟨u0,u1,u2,u3,u4,u5,u6⟩ := HX.out.u
 clear hN hon hnp hmm hle hlh hlk hlc hlm hln hz htx hX0 hW1 hU hr hw
 cases on0 <;> cases np0
 · have HOz := Lib.hid (HLt.out #[.string ⟨#[117,115,101,114]⟩,.string N,.string ⟨#[111,102,102]⟩] ([[117,115,101,114],N.data.toList,if false = true then [111,110] else [111,102,102]]) rfl rfl)
   generalize hL0 : ([[117,115,101,114],N.data.toList,if false = true then [111,110] else [111,102,102]] : List (List UInt8)) = L0 at HZ HOz ⊢
   generalize hNp : (if false = true then [[110,111,112,97,115,115]] else ([] : List (List UInt8))) = Np at HZ ⊢
   generalize hL1 : L0 ++ Np = L1 at HZ ⊢
   have HLz : Hid (L0.length = 3) := Lib.hid (by rw [← hL0]; rfl)
   have HN1 : Hid (L1 = L0 ++ []) := Lib.hid (by rw [← hL1,← hNp]; rfl)
   have HL1 : Hid (L1.length ≤ 4) := Lib.hid (by rw [HN1.out,List.length_append,HLz.out]; decide)
   have HXf := Lib.hid (HX.out.keep (Kit.below1 W1 (.cells #[.string ⟨#[117,115,101,114]⟩,.string N,.string ⟨#[111,102,102]⟩] 9)))
   have z1 := HXf.out.u.2.1
   have HBz := Lib.hid (Kit.below1 W1 (.cells #[.string ⟨#[117,115,101,114]⟩,.string N,.string ⟨#[111,102,102]⟩] 9))
   obtain ⟨S,-,hS⟩ := str_s (joinW (L1 ++ Hs ++ Ks ++ Cs ++ Ms))
   rw [hS]
   have HS := Lib.hid hS
   clear hL0 hNp hL1 HLt hS
   go_enter Tryz.func17,Tryz.ntmps17
   go_upto_region 1 with fail
   rw [HW1.out]
   go_upto_region 4 with fail
   generalize (Value.slice (some ⟨W1.heap.size,0,none⟩) 3 3) = vz at HOz ⊢
   clear z1 HXf
   generalize W1.alloc _ = Wz at HOz HBz ⊢
   have HXz := Lib.hid (HX.out.keep HBz.out)
   clear u0 u1 u2 u3 u4 u5 u6
   obtain ⟨u0,u1,u2,u3,u4,u5,u6⟩ := HXz.out.u
   have HOy : Hid (OwnR strE W1.heap.size Wz vz L1) := Lib.hid (by rw [HN1.out,List.append_nil]; exact HOz.out)
   have HBy := HBz
   have HXy := HXz
   clear HOz HBz HXz
   go_wp2_with fail
   with_reducible refine (CH.out _ HXy).mono ?_
   rintro e wa1 ⟨qa1,ca1,rfl,ha,hba⟩
   have HOa1 := Lib.hid (HOy.out.keep hba)
   have HBa1 := Lib.hid (HBy.out.trans (hba.mono HBy.out.size))
   have HRa1 := Lib.hid (own_in ha (by have := HNn.out; omega))
   clear ha hba HOy HBy HXy u0 u1 u2 u3 u4 u5 u6
   go_wp2_with (at_builtin; refine wpList_append_rs strE (w0 := W1) rfl (.tmp 16) (.tmp 19) rfl _ _ rfl HOa1.out HBa1.out qa1 Hs nh ca1 rfl HRa1.out.l HRa1.out.r HRa1.out.e (by have := HNn.out; have := HNl.out; have := HL1.out; (try simp only [List.length_append]); omega) _ rfl ?_; intro v1 w1 ho1 hb1; have HO1 := Lib.hid ho1; have HB1 := Lib.hid hb1; have HX1 := Lib.hid (HX.out.keep hb1); obtain ⟨u0,u1,u2,u3,u4,u5,u6⟩ := HX1.out.u; clear HOa1 HBa1 HRa1 ho1 hb1)
   go_wp2_with fail
   with_reducible refine (CK.out _ HX1).mono ?_
   rintro e wa2 ⟨qa2,ca2,rfl,ha,hba⟩
   have HOa2 := Lib.hid (HO1.out.keep hba)
   have HBa2 := Lib.hid (HB1.out.trans (hba.mono HB1.out.size))
   have HRa2 := Lib.hid (own_in ha (by have := HNn.out; omega))
   clear ha hba HO1 HB1 HX1 u0 u1 u2 u3 u4 u5 u6
   go_wp2_with (at_builtin; refine wpList_append_rs strE (w0 := W1) rfl (.tmp 21) (.tmp 24) rfl _ _ rfl HOa2.out HBa2.out qa2 Ks nk ca2 rfl HRa2.out.l HRa2.out.r HRa2.out.e (by have := HNn.out; have := HNl.out; have := HL1.out; (try simp only [List.length_append]); omega) _ rfl ?_; intro v2 w2 ho2 hb2; have HO2 := Lib.hid ho2; have HB2 := Lib.hid hb2; have HX2 := Lib.hid (HX.out.keep hb2); obtain ⟨u0,u1,u2,u3,u4,u5,u6⟩ := HX2.out.u; clear HOa2 HBa2 HRa2 ho2 hb2)
   go_wp2_with fail
   with_reducible refine (CC.out _ HX2).mono ?_
   rintro e wa3 ⟨qa3,ca3,rfl,ha,hba⟩
   have HOa3 := Lib.hid (HO2.out.keep hba)
   have HBa3 := Lib.hid (HB2.out.trans (hba.mono HB2.out.size))
   have HRa3 := Lib.hid (own_in ha (by have := HNn.out; omega))
   clear ha hba HO2 HB2 HX2 u0 u1 u2 u3 u4 u5 u6
   go_wp2_with (at_builtin; refine wpList_append_rs strE (w0 := W1) rfl (.tmp 26) (.tmp 29) rfl _ _ rfl HOa3.out HBa3.out qa3 Cs nc ca3 rfl HRa3.out.l HRa3.out.r HRa3.out.e (by have := HNn.out; have := HNl.out; have := HL1.out; (try simp only [List.length_append]); omega) _ rfl ?_; intro v3 w3 ho3 hb3; have HO3 := Lib.hid ho3; have HB3 := Lib.hid hb3; have HX3 := Lib.hid (HX.out.keep hb3); obtain ⟨u0,u1,u2,u3,u4,u5,u6⟩ := HX3.out.u; clear HOa3 HBa3 HRa3 ho3 hb3)
   go_wp2_with fail
   with_reducible refine (CM.out _).mono ?_
   rintro e wa4 ⟨qa4,ca4,rfl,hra,-,hba⟩
   have HOa4 := Lib.hid (HO3.out.keep hba)
   have HBa4 := Lib.hid (HB3.out.trans (hba.mono HB3.out.size))
   have HRa4 := Lib.hid hra
   clear hra hba HO3 HB3 HX3 u0 u1 u2 u3 u4 u5 u6
   go_wp2_with (at_builtin; refine wpList_append_rs strE (w0 := W1) rfl (.tmp 31) (.tmp 34) rfl _ _ rfl HOa4.out HBa4.out qa4 Ms Ms.length ca4 rfl rfl HRa4.out.r HRa4.out.e (by have := HNn.out; have := HNl.out; have := HL1.out; (try simp only [List.length_append]); omega) _ rfl ?_; intro v4 w4 ho4 hb4; obtain ⟨q4,c4,rfl,hr4,-⟩ := row_ans ho4 (by have := HNn.out; have := HNl.out; have := HL1.out; (try simp only [List.length_append]); omega); generalize (L1 ++ Hs ++ Ks ++ Cs ++ Ms).length = n4 at hr4 ⊢; have HR4 := Lib.hid hr4; have HB4 := Lib.hid hb4; clear HOa4 HBa4 HRa4 ho4 hb4 hr4)
   have HJ2 := HJ.out _ _ _ _ _ HR4.out HZ.out
   rw [HS.out] at HJ2
   with_reducible refine HJ2.mono ?_
   rintro e w5 ⟨rfl,hb5⟩
   go_wp2_with fail
   go_ret
   exact ⟨rfl,(HX.out.bl.trans (HB4.out.mono HX.out.bl.size)).trans (hb5.mono ((HX.out.bl.trans (HB4.out.mono HX.out.bl.size)).size))⟩
 · have HOz := Lib.hid (HLt.out #[.string ⟨#[117,115,101,114]⟩,.string N,.string ⟨#[111,102,102]⟩] ([[117,115,101,114],N.data.toList,if false = true then [111,110] else [111,102,102]]) rfl rfl)
   generalize hL0 : ([[117,115,101,114],N.data.toList,if false = true then [111,110] else [111,102,102]] : List (List UInt8)) = L0 at HZ HOz ⊢
   generalize hNp : (if true = true then [[110,111,112,97,115,115]] else ([] : List (List UInt8))) = Np at HZ ⊢
   generalize hL1 : L0 ++ Np = L1 at HZ ⊢
   have HLz : Hid (L0.length = 3) := Lib.hid (by rw [← hL0]; rfl)
   have HN1 : Hid (L1 = L0 ++ [[110,111,112,97,115,115]]) := Lib.hid (by rw [← hL1,← hNp]; rfl)
   have HL1 : Hid (L1.length ≤ 4) := Lib.hid (by rw [HN1.out,List.length_append,HLz.out]; decide)
   have HXf := Lib.hid (HX.out.keep (Kit.below1 W1 (.cells #[.string ⟨#[117,115,101,114]⟩,.string N,.string ⟨#[111,102,102]⟩] 9)))
   have z1 := HXf.out.u.2.1
   have HBz := Lib.hid (Kit.below1 W1 (.cells #[.string ⟨#[117,115,101,114]⟩,.string N,.string ⟨#[111,102,102]⟩] 9))
   obtain ⟨S,-,hS⟩ := str_s (joinW (L1 ++ Hs ++ Ks ++ Cs ++ Ms))
   rw [hS]
   have HS := Lib.hid hS
   clear hL0 hNp hL1 HLt hS
   go_enter Tryz.func17,Tryz.ntmps17
   go_upto_region 1 with fail
   rw [HW1.out]
   go_upto_region 4 with fail
   generalize (Value.slice (some ⟨W1.heap.size,0,none⟩) 3 3) = vz at HOz ⊢
   clear z1 HXf
   generalize W1.alloc _ = Wz at HOz HBz ⊢
   have HXz := Lib.hid (HX.out.keep HBz.out)
   clear u0 u1 u2 u3 u4 u5 u6
   obtain ⟨u0,u1,u2,u3,u4,u5,u6⟩ := HXz.out.u
   have HO6 := Lib.hid (HOz.out.keep (Kit.below1 Wz (.cells #[.string ⟨#[110,111,112,97,115,115]⟩] strE.ty)))
   have HB6 := Lib.hid (HBz.out.alloc HBz.out.size (.cells #[.string ⟨#[110,111,112,97,115,115]⟩] strE.ty))
   have hol : L0.length ≤ 1048576 := by have := HLz.out; omega
   clear HOz HBz HXz
   go_wp2_with (at_builtin; refine wpList_append_r strE (w0 := W1) rfl (.tmp 13) (.tmp 14) rfl _ _ rfl HO6.out HB6.out Wz.heap.size _ 1 rfl (HNp.out Wz) hol ?_; intro vy wy hoy hby; rw [← HN1.out] at hoy; have HOy := Lib.hid hoy; have HBy := Lib.hid hby; have HXy := Lib.hid (HX.out.keep hby); clear HO6 HB6 hoy hby hol u0 u1 u2 u3 u4 u5 u6; obtain ⟨u0,u1,u2,u3,u4,u5,u6⟩ := HXy.out.u)
   with_reducible refine (CH.out _ HXy).mono ?_
   rintro e wa1 ⟨qa1,ca1,rfl,ha,hba⟩
   have HOa1 := Lib.hid (HOy.out.keep hba)
   have HBa1 := Lib.hid (HBy.out.trans (hba.mono HBy.out.size))
   have HRa1 := Lib.hid (own_in ha (by have := HNn.out; omega))
   clear ha hba HOy HBy HXy u0 u1 u2 u3 u4 u5 u6
   go_wp2_with (at_builtin; refine wpList_append_rs strE (w0 := W1) rfl (.tmp 16) (.tmp 19) rfl _ _ rfl HOa1.out HBa1.out qa1 Hs nh ca1 rfl HRa1.out.l HRa1.out.r HRa1.out.e (by have := HNn.out; have := HNl.out; have := HL1.out; (try simp only [List.length_append]); omega) _ rfl ?_; intro v1 w1 ho1 hb1; have HO1 := Lib.hid ho1; have HB1 := Lib.hid hb1; have HX1 := Lib.hid (HX.out.keep hb1); obtain ⟨u0,u1,u2,u3,u4,u5,u6⟩ := HX1.out.u; clear HOa1 HBa1 HRa1 ho1 hb1)
   go_wp2_with fail
   with_reducible refine (CK.out _ HX1).mono ?_
   rintro e wa2 ⟨qa2,ca2,rfl,ha,hba⟩
   have HOa2 := Lib.hid (HO1.out.keep hba)
   have HBa2 := Lib.hid (HB1.out.trans (hba.mono HB1.out.size))
   have HRa2 := Lib.hid (own_in ha (by have := HNn.out; omega))
   clear ha hba HO1 HB1 HX1 u0 u1 u2 u3 u4 u5 u6
   go_wp2_with (at_builtin; refine wpList_append_rs strE (w0 := W1) rfl (.tmp 21) (.tmp 24) rfl _ _ rfl HOa2.out HBa2.out qa2 Ks nk ca2 rfl HRa2.out.l HRa2.out.r HRa2.out.e (by have := HNn.out; have := HNl.out; have := HL1.out; (try simp only [List.length_append]); omega) _ rfl ?_; intro v2 w2 ho2 hb2; have HO2 := Lib.hid ho2; have HB2 := Lib.hid hb2; have HX2 := Lib.hid (HX.out.keep hb2); obtain ⟨u0,u1,u2,u3,u4,u5,u6⟩ := HX2.out.u; clear HOa2 HBa2 HRa2 ho2 hb2)
   go_wp2_with fail
   with_reducible refine (CC.out _ HX2).mono ?_
   rintro e wa3 ⟨qa3,ca3,rfl,ha,hba⟩
   have HOa3 := Lib.hid (HO2.out.keep hba)
   have HBa3 := Lib.hid (HB2.out.trans (hba.mono HB2.out.size))
   have HRa3 := Lib.hid (own_in ha (by have := HNn.out; omega))
   clear ha hba HO2 HB2 HX2 u0 u1 u2 u3 u4 u5 u6
   go_wp2_with (at_builtin; refine wpList_append_rs strE (w0 := W1) rfl (.tmp 26) (.tmp 29) rfl _ _ rfl HOa3.out HBa3.out qa3 Cs nc ca3 rfl HRa3.out.l HRa3.out.r HRa3.out.e (by have := HNn.out; have := HNl.out; have := HL1.out; (try simp only [List.length_append]); omega) _ rfl ?_; intro v3 w3 ho3 hb3; have HO3 := Lib.hid ho3; have HB3 := Lib.hid hb3; have HX3 := Lib.hid (HX.out.keep hb3); obtain ⟨u0,u1,u2,u3,u4,u5,u6⟩ := HX3.out.u; clear HOa3 HBa3 HRa3 ho3 hb3)
   go_wp2_with fail
   with_reducible refine (CM.out _).mono ?_
   rintro e wa4 ⟨qa4,ca4,rfl,hra,-,hba⟩
   have HOa4 := Lib.hid (HO3.out.keep hba)
   have HBa4 := Lib.hid (HB3.out.trans (hba.mono HB3.out.size))
   have HRa4 := Lib.hid hra
   clear hra hba HO3 HB3 HX3 u0 u1 u2 u3 u4 u5 u6
   go_wp2_with (at_builtin; refine wpList_append_rs strE (w0 := W1) rfl (.tmp 31) (.tmp 34) rfl _ _ rfl HOa4.out HBa4.out qa4 Ms Ms.length ca4 rfl rfl HRa4.out.r HRa4.out.e (by have := HNn.out; have := HNl.out; have := HL1.out; (try simp only [List.length_append]); omega) _ rfl ?_; intro v4 w4 ho4 hb4; obtain ⟨q4,c4,rfl,hr4,-⟩ := row_ans ho4 (by have := HNn.out; have := HNl.out; have := HL1.out; (try simp only [List.length_append]); omega); generalize (L1 ++ Hs ++ Ks ++ Cs ++ Ms).length = n4 at hr4 ⊢; have HR4 := Lib.hid hr4; have HB4 := Lib.hid hb4; clear HOa4 HBa4 HRa4 ho4 hb4 hr4)
   have HJ2 := HJ.out _ _ _ _ _ HR4.out HZ.out
   rw [HS.out] at HJ2
   with_reducible refine HJ2.mono ?_
   rintro e w5 ⟨rfl,hb5⟩
   go_wp2_with fail
   go_ret
   exact ⟨rfl,(HX.out.bl.trans (HB4.out.mono HX.out.bl.size)).trans (hb5.mono ((HX.out.bl.trans (HB4.out.mono HX.out.bl.size)).size))⟩
 · have HOz := Lib.hid (HLt.out #[.string ⟨#[117,115,101,114]⟩,.string N,.string ⟨#[111,110]⟩] ([[117,115,101,114],N.data.toList,if true = true then [111,110] else [111,102,102]]) rfl rfl)
   generalize hL0 : ([[117,115,101,114],N.data.toList,if true = true then [111,110] else [111,102,102]] : List (List UInt8)) = L0 at HZ HOz ⊢
   generalize hNp : (if false = true then [[110,111,112,97,115,115]] else ([] : List (List UInt8))) = Np at HZ ⊢
   generalize hL1 : L0 ++ Np = L1 at HZ ⊢
   have HLz : Hid (L0.length = 3) := Lib.hid (by rw [← hL0]; rfl)
   have HN1 : Hid (L1 = L0 ++ []) := Lib.hid (by rw [← hL1,← hNp]; rfl)
   have HL1 : Hid (L1.length ≤ 4) := Lib.hid (by rw [HN1.out,List.length_append,HLz.out]; decide)
   have HXf := Lib.hid (HX.out.keep (Kit.below1 W1 (.cells #[.string ⟨#[117,115,101,114]⟩,.string N,.string ⟨#[111,102,102]⟩] 9)))
   have z1 := HXf.out.u.2.1
   have HBz := Lib.hid (Kit.below1 W1 (.cells #[.string ⟨#[117,115,101,114]⟩,.string N,.string ⟨#[111,110]⟩] 9))
   obtain ⟨S,-,hS⟩ := str_s (joinW (L1 ++ Hs ++ Ks ++ Cs ++ Ms))
   rw [hS]
   have HS := Lib.hid hS
   clear hL0 hNp hL1 HLt hS
   go_enter Tryz.func17,Tryz.ntmps17
   go_upto_region 1 with fail
   rw [HW1.out]
   go_upto_region 4 with fail
   generalize (Value.slice (some ⟨W1.heap.size,0,none⟩) 3 3) = vz at HOz ⊢
   clear z1 HXf
   generalize W1.alloc _ = Wz at HOz HBz ⊢
   have HXz := Lib.hid (HX.out.keep HBz.out)
   clear u0 u1 u2 u3 u4 u5 u6
   obtain ⟨u0,u1,u2,u3,u4,u5,u6⟩ := HXz.out.u
   have HOy : Hid (OwnR strE W1.heap.size Wz vz L1) := Lib.hid (by rw [HN1.out,List.append_nil]; exact HOz.out)
   have HBy := HBz
   have HXy := HXz
   clear HOz HBz HXz
   go_wp2_with fail
   with_reducible refine (CH.out _ HXy).mono ?_
   rintro e wa1 ⟨qa1,ca1,rfl,ha,hba⟩
   have HOa1 := Lib.hid (HOy.out.keep hba)
   have HBa1 := Lib.hid (HBy.out.trans (hba.mono HBy.out.size))
   have HRa1 := Lib.hid (own_in ha (by have := HNn.out; omega))
   clear ha hba HOy HBy HXy u0 u1 u2 u3 u4 u5 u6
   go_wp2_with (at_builtin; refine wpList_append_rs strE (w0 := W1) rfl (.tmp 16) (.tmp 19) rfl _ _ rfl HOa1.out HBa1.out qa1 Hs nh ca1 rfl HRa1.out.l HRa1.out.r HRa1.out.e (by have := HNn.out; have := HNl.out; have := HL1.out; (try simp only [List.length_append]); omega) _ rfl ?_; intro v1 w1 ho1 hb1; have HO1 := Lib.hid ho1; have HB1 := Lib.hid hb1; have HX1 := Lib.hid (HX.out.keep hb1); obtain ⟨u0,u1,u2,u3,u4,u5,u6⟩ := HX1.out.u; clear HOa1 HBa1 HRa1 ho1 hb1)
   go_wp2_with fail
   with_reducible refine (CK.out _ HX1).mono ?_
   rintro e wa2 ⟨qa2,ca2,rfl,ha,hba⟩
   have HOa2 := Lib.hid (HO1.out.keep hba)
   have HBa2 := Lib.hid (HB1.out.trans (hba.mono HB1.out.size))
   have HRa2 := Lib.hid (own_in ha (by have := HNn.out; omega))
   clear ha hba HO1 HB1 HX1 u0 u1 u2 u3 u4 u5 u6
   go_wp2_with (at_builtin; refine wpList_append_rs strE (w0 := W1) rfl (.tmp 21) (.tmp 24) rfl _ _ rfl HOa2.out HBa2.out qa2 Ks nk ca2 rfl HRa2.out.l HRa2.out.r HRa2.out.e (by have := HNn.out; have := HNl.out; have := HL1.out; (try simp only [List.length_append]); omega) _ rfl ?_; intro v2 w2 ho2 hb2; have HO2 := Lib.hid ho2; have HB2 := Lib.hid hb2; have HX2 := Lib.hid (HX.out.keep hb2); obtain ⟨u0,u1,u2,u3,u4,u5,u6⟩ := HX2.out.u; clear HOa2 HBa2 HRa2 ho2 hb2)
   go_wp2_with fail
   with_reducible refine (CC.out _ HX2).mono ?_
   rintro e wa3 ⟨qa3,ca3,rfl,ha,hba⟩
   have HOa3 := Lib.hid (HO2.out.keep hba)
   have HBa3 := Lib.hid (HB2.out.trans (hba.mono HB2.out.size))
   have HRa3 := Lib.hid (own_in ha (by have := HNn.out; omega))
   clear ha hba HO2 HB2 HX2 u0 u1 u2 u3 u4 u5 u6
   go_wp2_with (at_builtin; refine wpList_append_rs strE (w0 := W1) rfl (.tmp 26) (.tmp 29) rfl _ _ rfl HOa3.out HBa3.out qa3 Cs nc ca3 rfl HRa3.out.l HRa3.out.r HRa3.out.e (by have := HNn.out; have := HNl.out; have := HL1.out; (try simp only [List.length_append]); omega) _ rfl ?_; intro v3 w3 ho3 hb3; have HO3 := Lib.hid ho3; have HB3 := Lib.hid hb3; have HX3 := Lib.hid (HX.out.keep hb3); obtain ⟨u0,u1,u2,u3,u4,u5,u6⟩ := HX3.out.u; clear HOa3 HBa3 HRa3 ho3 hb3)
   go_wp2_with fail
   with_reducible refine (CM.out _).mono ?_
   rintro e wa4 ⟨qa4,ca4,rfl,hra,-,hba⟩
   have HOa4 := Lib.hid (HO3.out.keep hba)
   have HBa4 := Lib.hid (HB3.out.trans (hba.mono HB3.out.size))
   have HRa4 := Lib.hid hra
   clear hra hba HO3 HB3 HX3 u0 u1 u2 u3 u4 u5 u6
   go_wp2_with (at_builtin; refine wpList_append_rs strE (w0 := W1) rfl (.tmp 31) (.tmp 34) rfl _ _ rfl HOa4.out HBa4.out qa4 Ms Ms.length ca4 rfl rfl HRa4.out.r HRa4.out.e (by have := HNn.out; have := HNl.out; have := HL1.out; (try simp only [List.length_append]); omega) _ rfl ?_; intro v4 w4 ho4 hb4; obtain ⟨q4,c4,rfl,hr4,-⟩ := row_ans ho4 (by have := HNn.out; have := HNl.out; have := HL1.out; (try simp only [List.length_append]); omega); generalize (L1 ++ Hs ++ Ks ++ Cs ++ Ms).length = n4 at hr4 ⊢; have HR4 := Lib.hid hr4; have HB4 := Lib.hid hb4; clear HOa4 HBa4 HRa4 ho4 hb4 hr4)
   have HJ2 := HJ.out _ _ _ _ _ HR4.out HZ.out
   rw [HS.out] at HJ2
   with_reducible refine HJ2.mono ?_
   rintro e w5 ⟨rfl,hb5⟩
   go_wp2_with fail
   go_ret
   exact ⟨rfl,(HX.out.bl.trans (HB4.out.mono HX.out.bl.size)).trans (hb5.mono ((HX.out.bl.trans (HB4.out.mono HX.out.bl.size)).size))⟩
 · have HOz := Lib.hid (HLt.out #[.string ⟨#[117,115,101,114]⟩,.string N,.string ⟨#[111,110]⟩] ([[117,115,101,114],N.data.toList,if true = true then [111,110] else [111,102,102]]) rfl rfl)
   generalize hL0 : ([[117,115,101,114],N.data.toList,if true = true then [111,110] else [111,102,102]] : List (List UInt8)) = L0 at HZ HOz ⊢
   generalize hNp : (if true = true then [[110,111,112,97,115,115]] else ([] : List (List UInt8))) = Np at HZ ⊢
   generalize hL1 : L0 ++ Np = L1 at HZ ⊢
   have HLz : Hid (L0.length = 3) := Lib.hid (by rw [← hL0]; rfl)
   have HN1 : Hid (L1 = L0 ++ [[110,111,112,97,115,115]]) := Lib.hid (by rw [← hL1,← hNp]; rfl)
   have HL1 : Hid (L1.length ≤ 4) := Lib.hid (by rw [HN1.out,List.length_append,HLz.out]; decide)
   have HXf := Lib.hid (HX.out.keep (Kit.below1 W1 (.cells #[.string ⟨#[117,115,101,114]⟩,.string N,.string ⟨#[111,102,102]⟩] 9)))
   have z1 := HXf.out.u.2.1
   have HBz := Lib.hid (Kit.below1 W1 (.cells #[.string ⟨#[117,115,101,114]⟩,.string N,.string ⟨#[111,110]⟩] 9))
   obtain ⟨S,-,hS⟩ := str_s (joinW (L1 ++ Hs ++ Ks ++ Cs ++ Ms))
   rw [hS]
   have HS := Lib.hid hS
   clear hL0 hNp hL1 HLt hS
   go_enter Tryz.func17,Tryz.ntmps17
   go_upto_region 1 with fail
   rw [HW1.out]
   go_upto_region 4 with fail
   generalize (Value.slice (some ⟨W1.heap.size,0,none⟩) 3 3) = vz at HOz ⊢
   clear z1 HXf
   generalize W1.alloc _ = Wz at HOz HBz ⊢
   have HXz := Lib.hid (HX.out.keep HBz.out)
   clear u0 u1 u2 u3 u4 u5 u6
   obtain ⟨u0,u1,u2,u3,u4,u5,u6⟩ := HXz.out.u
   have HO6 := Lib.hid (HOz.out.keep (Kit.below1 Wz (.cells #[.string ⟨#[110,111,112,97,115,115]⟩] strE.ty)))
   have HB6 := Lib.hid (HBz.out.alloc HBz.out.size (.cells #[.string ⟨#[110,111,112,97,115,115]⟩] strE.ty))
   have hol : L0.length ≤ 1048576 := by have := HLz.out; omega
   clear HOz HBz HXz
   go_wp2_with (at_builtin; refine wpList_append_r strE (w0 := W1) rfl (.tmp 13) (.tmp 14) rfl _ _ rfl HO6.out HB6.out Wz.heap.size _ 1 rfl (HNp.out Wz) hol ?_; intro vy wy hoy hby; rw [← HN1.out] at hoy; have HOy := Lib.hid hoy; have HBy := Lib.hid hby; have HXy := Lib.hid (HX.out.keep hby); clear HO6 HB6 hoy hby hol u0 u1 u2 u3 u4 u5 u6; obtain ⟨u0,u1,u2,u3,u4,u5,u6⟩ := HXy.out.u)
   with_reducible refine (CH.out _ HXy).mono ?_
   rintro e wa1 ⟨qa1,ca1,rfl,ha,hba⟩
   have HOa1 := Lib.hid (HOy.out.keep hba)
   have HBa1 := Lib.hid (HBy.out.trans (hba.mono HBy.out.size))
   have HRa1 := Lib.hid (own_in ha (by have := HNn.out; omega))
   clear ha hba HOy HBy HXy u0 u1 u2 u3 u4 u5 u6
   go_wp2_with (at_builtin; refine wpList_append_rs strE (w0 := W1) rfl (.tmp 16) (.tmp 19) rfl _ _ rfl HOa1.out HBa1.out qa1 Hs nh ca1 rfl HRa1.out.l HRa1.out.r HRa1.out.e (by have := HNn.out; have := HNl.out; have := HL1.out; (try simp only [List.length_append]); omega) _ rfl ?_; intro v1 w1 ho1 hb1; have HO1 := Lib.hid ho1; have HB1 := Lib.hid hb1; have HX1 := Lib.hid (HX.out.keep hb1); obtain ⟨u0,u1,u2,u3,u4,u5,u6⟩ := HX1.out.u; clear HOa1 HBa1 HRa1 ho1 hb1)
   go_wp2_with fail
   with_reducible refine (CK.out _ HX1).mono ?_
   rintro e wa2 ⟨qa2,ca2,rfl,ha,hba⟩
   have HOa2 := Lib.hid (HO1.out.keep hba)
   have HBa2 := Lib.hid (HB1.out.trans (hba.mono HB1.out.size))
   have HRa2 := Lib.hid (own_in ha (by have := HNn.out; omega))
   clear ha hba HO1 HB1 HX1 u0 u1 u2 u3 u4 u5 u6
   go_wp2_with (at_builtin; refine wpList_append_rs strE (w0 := W1) rfl (.tmp 21) (.tmp 24) rfl _ _ rfl HOa2.out HBa2.out qa2 Ks nk ca2 rfl HRa2.out.l HRa2.out.r HRa2.out.e (by have := HNn.out; have := HNl.out; have := HL1.out; (try simp only [List.length_append]); omega) _ rfl ?_; intro v2 w2 ho2 hb2; have HO2 := Lib.hid ho2; have HB2 := Lib.hid hb2; have HX2 := Lib.hid (HX.out.keep hb2); obtain ⟨u0,u1,u2,u3,u4,u5,u6⟩ := HX2.out.u; clear HOa2 HBa2 HRa2 ho2 hb2)
   go_wp2_with fail
   with_reducible refine (CC.out _ HX2).mono ?_
   rintro e wa3 ⟨qa3,ca3,rfl,ha,hba⟩
   have HOa3 := Lib.hid (HO2.out.keep hba)
   have HBa3 := Lib.hid (HB2.out.trans (hba.mono HB2.out.size))
   have HRa3 := Lib.hid (own_in ha (by have := HNn.out; omega))
   clear ha hba HO2 HB2 HX2 u0 u1 u2 u3 u4 u5 u6
   go_wp2_with (at_builtin; refine wpList_append_rs strE (w0 := W1) rfl (.tmp 26) (.tmp 29) rfl _ _ rfl HOa3.out HBa3.out qa3 Cs nc ca3 rfl HRa3.out.l HRa3.out.r HRa3.out.e (by have := HNn.out; have := HNl.out; have := HL1.out; (try simp only [List.length_append]); omega) _ rfl ?_; intro v3 w3 ho3 hb3; have HO3 := Lib.hid ho3; have HB3 := Lib.hid hb3; have HX3 := Lib.hid (HX.out.keep hb3); obtain ⟨u0,u1,u2,u3,u4,u5,u6⟩ := HX3.out.u; clear HOa3 HBa3 HRa3 ho3 hb3)
   go_wp2_with fail
   with_reducible refine (CM.out _).mono ?_
   rintro e wa4 ⟨qa4,ca4,rfl,hra,-,hba⟩
   have HOa4 := Lib.hid (HO3.out.keep hba)
   have HBa4 := Lib.hid (HB3.out.trans (hba.mono HB3.out.size))
   have HRa4 := Lib.hid hra
   clear hra hba HO3 HB3 HX3 u0 u1 u2 u3 u4 u5 u6
   go_wp2_with (at_builtin; refine wpList_append_rs strE (w0 := W1) rfl (.tmp 31) (.tmp 34) rfl _ _ rfl HOa4.out HBa4.out qa4 Ms Ms.length ca4 rfl rfl HRa4.out.r HRa4.out.e (by have := HNn.out; have := HNl.out; have := HL1.out; (try simp only [List.length_append]); omega) _ rfl ?_; intro v4 w4 ho4 hb4; obtain ⟨q4,c4,rfl,hr4,-⟩ := row_ans ho4 (by have := HNn.out; have := HNl.out; have := HL1.out; (try simp only [List.length_append]); omega); generalize (L1 ++ Hs ++ Ks ++ Cs ++ Ms).length = n4 at hr4 ⊢; have HR4 := Lib.hid hr4; have HB4 := Lib.hid hb4; clear HOa4 HBa4 HRa4 ho4 hb4 hr4)
   have HJ2 := HJ.out _ _ _ _ _ HR4.out HZ.out
   rw [HS.out] at HJ2
   with_reducible refine HJ2.mono ?_
   rintro e w5 ⟨rfl,hb5⟩
   go_wp2_with fail
   go_ret
   exact ⟨rfl,(HX.out.bl.trans (HB4.out.mono HX.out.bl.size)).trans (hb5.mono ((HX.out.bl.trans (HB4.out.mono HX.out.bl.size)).size))⟩
theorem text_c (p : UP) (w : World) (hg : Gu w) (hU : UIn w p) (hr : RightU p.d) (hz : (textD p.d).length ≤ 1048576) :
  Calls Tryz.prog 17 #[p.agg] w fun e w' => e = .returned (.string ⟨(textD p.d).toArray⟩) ∧ Below w.heap.size w w' := text_w p w hU hr (fun x hx => Nat.le_trans (word_le _ x hx) hz)
end Go.Proofs.YtpoinibckmbfcaaGreatDoor.UserM
