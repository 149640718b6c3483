/-
  Packed by program.
-/
import Derived.Laws.EntriesVeiled
import Derived.Test.YtpoinibckmbfcaaGreatDoorPk26
import Derived.Test.YtpoinibckmbfcaaGreatDoorPk27
namespace Go.Proofs.YtpoinibckmbfcaaGreatDoor.UserM
open Go.RowKit Kit StrT RowG RuleT UserT UserR TableMath Low ValT RefUser
open Go.Sort (grow)
set_option linter.unusedVariables false
set_option maxRecDepth 100000
theorem all_any (w : World) : Calls Tryz.prog 36 #[] w fun e w' => e = .returned (.int .u64 72057594037927935) ∧ Below w.heap.size w w' := by
 have C := Lib.hid (TableM.cat_any ⟨#[97,108,108]⟩ w (by decide))
 rw [show (⟨#[97,108,108]⟩ : ByteArray).data.toList = [97,108,108] from rfl,cat_whole.1,cat_whole.2] at C
 go_enter Tryz.func36,Tryz.ntmps36
 go_wp2_with fail
 with_reducible refine C.out.mono ?_
 rintro e w1 ⟨rfl,hb⟩
 go_wp2_with fail
 go_ret
 exact ⟨rfl,hb⟩
theorem nodup_next {L : List (List UInt8)} {k : Nat} (hk : k < L.length) (h : (L.take k).Nodup) (hn : L[k] ∉ L.take k) : (L.take (k + 1)).Nodup := by
 rw [List.take_succ_eq_append_getElem hk,List.nodup_append]
 exact ⟨h,by simp,fun a ha b hb e => hn (by rw [← List.mem_singleton.1 hb,← e]; exact ha)⟩
theorem nodup_bad {L : List (List UInt8)} {k : Nat} (hk : k < L.length) (hn : L[k] ∈ L.take k) : ¬ L.Nodup := by
 intro h
 have h2 : (L.take (k + 1)).Nodup := h.sublist (List.take_sublist _ _)
 rw [List.take_succ_eq_append_getElem hk,List.nodup_append] at h2
 exact h2.2.2 _ hn _ (by simp) rfl
def listB (L : List (List UInt8)) (p : List UInt8 → Bool) : Bool := decide L.Nodup && decide (L.length ≤ 64) && L.all p
theorem row_take {w : World} {q : Option Addr} {n c : Nat} {L : List (List UInt8)} (h : RowIn strE w q n c L) (k : Nat) (hk : k ≤ n) : RowIn strE w q k c (L.take k) :=
 ⟨h.r.take k,by rw [List.length_take,h.l]; omega,by have := h.f; omega,by have := h.b; omega,h.m,h.e⟩
set_option maxHeartbeats 2000000 in
theorem listed_any (fu : FuncId) (hE : ∀ (args : Array Value) (W : World),(callFunc fu args).run Tryz.prog W = .ok (.enter fu args) W) (pr : List UInt8 → Bool) (q : Option Addr) (L : List (List UInt8)) (n c : Nat) (w : World) (h : RowIn strE w q n c L)
    (hF : ∀ W,Below w.heap.size w W → ∀ X : ByteArray,X.data.toList ∈ L → Calls Tryz.prog fu #[.string X] W fun e w' => e = .returned (.bool (pr X.data.toList)) ∧ Below W.heap.size W w') :
    Calls Tryz.prog 37 #[.slice q n c,.func (.func fu) #[] #[]] w fun e w' => e = .returned (.bool (listB L pr)) ∧ Below w.heap.size w w' := by
  obtain ⟨R,hR⟩ : ∃ R,R = listB L pr := ⟨_,rfl⟩
  rw [← hR]
  have hn := h.l
  by_cases h64 : 64 < n
  · have d0 : decide ((64 : Int) < (n : Int)) = true := decide_eq_true (by omega)
    have hRf : R = false := by
     rw [hR]
     unfold listB
     rw [decide_eq_false (show ¬ L.length ≤ 64 by omega)]
     simp
    subst hRf
    clear hR h hF hn
    go_enter Tryz.func37,Tryz.ntmps37
    go_wp2_with fail
    go_ret
    exact ⟨rfl,Below.refl _ _⟩
  · have d0 : decide ((64 : Int) < (n : Int)) = false := decide_eq_false (by omega)
    have HR := Lib.hid h
    have HN := Lib.hid hn
    have HF := Lib.hid hF
    have HRv := Lib.hid hR
    have HB0 := Lib.hid (Below.refl w.heap.size w)
    have CH := Lib.hid (fun k (hk : k ≤ n) X W (hW : Below w.heap.size w W) => has_any q (L.take k) k c X W ((row_take h k hk).keep hW))
    have hnc : n ≤ c := h.b
    clear h hF hR hn
    go_enter Tryz.func37,Tryz.ntmps37
    go_wp2_with fail
    go_loopw [12] (fun i wr => ∃ k : Nat,k ≤ n ∧ i = .int .i64 k ∧ Hid ((L.take k).Nodup ∧ (L.take k).all pr = true) ∧ Hid (Below w.heap.size w wr)) (fun i _ => n - (intOf i).toNat)
    case atStart => exact ⟨0,Nat.zero_le _,rfl,Lib.hid ⟨by simp,by simp⟩,HB0⟩
    case round =>
     obtain ⟨k,hk,rfl,HK,HB⟩ := hrel
     by_cases hlt : k < n
     · have d1 : decide ((k : Int) < (n : Int)) = true := decide_eq_true (by omega)
       have hkl : k < L.length := by rw [HN.out]; exact hlt
       have k0 : (0 : Int) ≤ (k : Int) := by omega
       have k1 : (k : Int) < (n : Int) := by omega
       obtain ⟨b,off,rfl,hbl,hc⟩ := (rs_ss.1 (HR.out.r.keep HB.out)) (by omega)
       have v0 := hc k hkl
       obtain ⟨X,hX⟩ : ∃ X : ByteArray,X = ⟨(L[k]'hkl).toArray⟩ := ⟨_,rfl⟩
       rw [← hX] at v0
       have hXd : X.data.toList = L[k]'hkl := by rw [hX]
       have CF := HF.out wr HB.out X (by rw [hXd]; exact List.getElem_mem hkl)
       obtain ⟨B,hB⟩ : ∃ B,B = pr X.data.toList := ⟨_,rfl⟩
       rw [← hB] at CF
       have HC := Lib.hid CF
       have HHas := Lib.hid (fun W hW => CH.out k hk X W hW)
       have s1 : ∀ W,(Instr.slice 22 (.slice (some ⟨b,off,none⟩) n c) none (some (.int .i64 (k : Int))) none).run Tryz.prog W = .ok (.slice (some ⟨b,off,none⟩) k c) W := fun W => sl_upto strE _ n c k (by omega) W
       rw [hXd] at hB HHas
       clear CF hX hXd hc
       cases B with
       | false =>
         have hRf : R = false := by
          rw [HRv.out]
          unfold listB
          rw [show L.all pr = false from List.all_eq_false.2 ⟨_,List.getElem_mem hkl,by rw [← hB]; exact Bool.false_ne_true⟩]
          simp
         subst hRf
         clear hB HHas
         go_wp2_with fail
         with_reducible refine HC.out.mono ?_
         rintro e w1 ⟨rfl,hb1⟩
         have HB1 := Lib.hid (HB.out.trans (hb1.mono HB.out.size))
         clear hb1 HB v0
         go_wp2_with fail
         go_ret
         exact ⟨rfl,HB1.out⟩
       | true =>
         obtain ⟨D,hD⟩ : ∃ D,D = decide (L[k]'hkl ∈ L.take k) := ⟨_,rfl⟩
         rw [← hD] at HHas
         cases D with
         | true =>
           have hRf : R = false := by
            rw [HRv.out]
            unfold listB
            rw [decide_eq_false (nodup_bad hkl (of_decide_eq_true hD.symm))]
            simp
           subst hRf
           clear hB hD
           go_wp2_with fail
           with_reducible refine HC.out.mono ?_
           rintro e w1 ⟨rfl,hb1⟩
           have HB1 := Lib.hid (HB.out.trans (hb1.mono HB.out.size))
           clear hb1 HB v0
           go_wp2_with fail
           with_reducible refine (HHas.out _ HB1.out).mono ?_
           rintro e w2 ⟨rfl,rfl⟩
           go_wp2_with fail
           go_ret
           exact ⟨rfl,HB1.out⟩
         | false =>
           have HK2 := Lib.hid (show (L.take (k + 1)).Nodup ∧ (L.take (k + 1)).all pr = true from ⟨nodup_next hkl HK.out.1 (of_decide_eq_false hD.symm),by rw [List.take_succ_eq_append_getElem hkl,List.all_append,HK.out.2]; simp [← hB]⟩)
           clear hB hD HK
           go_wp2_with fail
           with_reducible refine HC.out.mono ?_
           rintro e w1 ⟨rfl,hb1⟩
           have HB1 := Lib.hid (HB.out.trans (hb1.mono HB.out.size))
           clear hb1 HB v0
           go_wp2_with fail
           with_reducible refine (HHas.out _ HB1.out).mono ?_
           rintro e w2 ⟨rfl,rfl⟩
           go_wp2_with fail
           go_roundw
           case rel => exact ⟨k + 1,by omega,by go_num,HK2,HB1⟩
           case measure => simp [intOf]; omega
     · obtain rfl : k = n := by omega
       have d1 : decide ((k : Int) < (k : Int)) = false := decide_eq_false (by omega)
       have hRt : R = true := by
        have h1 := HK.out
        rw [List.take_of_length_le (by rw [HN.out]; exact Nat.le_refl _)] at h1
        rw [HRv.out]
        unfold listB
        rw [decide_eq_true h1.1,h1.2,decide_eq_true (show L.length ≤ 64 by have := HN.out; omega)]
        rfl
       subst hRt
       go_wp2_with fail
       go_ret
       exact ⟨rfl,HB.out⟩
end Go.Proofs.YtpoinibckmbfcaaGreatDoor.UserM
namespace Go.Proofs.YtpoinibckmbfcaaGreatDoor.UserM
open Go.RowKit Kit StrT RowG RuleT UserT UserR TableMath Low ValT RefUser
open Go.Sort (grow)
set_option linter.unusedVariables false
set_option maxRecDepth 100000
theorem any_x (args : Array Value) (W : World) : (callFunc 40 args).run Tryz.prog W = .ok (.enter 40 args) W := by kernel_rfl
theorem any_c (X : ByteArray) (r w : Bool) (W : World) : Calls Tryz.prog 40 #[.agg #[.string X,.bool r,.bool w]] W fun e w' => e = .returned (.bool true) ∧ Below W.heap.size W w' := by
 go_enter Tryz.func40,Tryz.ntmps40
 go_wp2_with fail
 go_ret
 exact ⟨rfl,Kit.below1 _ _⟩
theorem grw_x (args : Array Value) (W : World) : (callFunc 42 args).run Tryz.prog W = .ok (.enter 42 args) W := by kernel_rfl
theorem rw_c (X : ByteArray) (r w : Bool) (W : World) : Calls Tryz.prog 42 #[.agg #[.string X,.bool r,.bool w]] W fun e w' => e = .returned (.bool (r || w)) ∧ Below W.heap.size W w' := by
 cases r <;> cases w
 all_goals
  go_enter Tryz.func42,Tryz.ntmps42
  go_wp2_with fail
  go_ret
  exact ⟨rfl,Kit.below1 _ _⟩
set_option maxHeartbeats 2000000 in
theorem pats_row (q : Option Addr) (L : List KG) (n c : Nat) (w : World) (h : RowIn glE w q n c L) :
  Calls Tryz.prog 39 #[.slice q n c,.func (.func 40) #[] #[]] w fun e w' => AnsRow strE (L.map (·.pat)) w e w' := by
 have HR := Lib.hid h
 have HN := Lib.hid h.l
 have HF := Lib.hid h.f
 have hf : n ≤ 1048576 := h.f
 have HO0 := Lib.hid (ownR_nil strE w.heap.size w)
 have HB0 := Lib.hid (Below.refl w.heap.size w)
 have CF := Lib.hid (fun X r k W => any_c X r k W)
 have hE := any_x
 clear h
 go_enter Tryz.func39,Tryz.ntmps39
 go_wp2_with fail
 go_loopw [5,10] (fun v i wr => ∃ k : Nat,k ≤ n ∧ i = .int .i64 k ∧ Hid (OwnR strE w.heap.size wr v ((L.take k).map (·.pat))) ∧ Hid (Below w.heap.size w wr)) (fun _ i _ => n - (intOf i).toNat)
 case atStart => exact ⟨0,Nat.zero_le _,rfl,HO0,HB0⟩
 case round =>
  obtain ⟨k,hk,rfl,HO,HB⟩ := hrel
  by_cases hlt : k < n
  · have d1 : decide ((k : Int) < (n : Int)) = true := decide_eq_true (by omega)
    have hkl : k < L.length := by rw [HN.out]; exact hlt
    have k0 : (0 : Int) ≤ (k : Int) := by omega
    have k1 : (k : Int) < (n : Int) := by omega
    obtain ⟨b,off,rfl,hbl,u0,u1,u2⟩ := glob_cells (HR.out.r.keep HB.out) k hkl
    have hst : (L.take (k + 1)).map (·.pat) = (L.take k).map (·.pat) ++ [L[k].pat] := by rw [List.take_succ_eq_append_getElem hkl,List.map_append]; rfl
    obtain ⟨x,hx⟩ : ∃ x,x = L[k].pat := ⟨_,rfl⟩
    rw [← hx] at u0 hst
    generalize L[k].r = xr at u1
    generalize L[k].w = xw at u2
    obtain ⟨X,hX⟩ : ∃ X : ByteArray,X = ⟨x.toArray⟩ := ⟨_,rfl⟩
    rw [← hX] at u0
    have HC := Lib.hid (fun (W : World) => rec_new strE W W.heap.size x #[.string X] (by rw [hX]; rfl) rfl)
    have hol : ((L.take k).map (·.pat)).length ≤ 1048576 := by rw [List.length_map,List.length_take]; have := HF.out; omega
    have HSt := Lib.hid hst
    have hb1 := Kit.below1 wr (.cells #[.string X,.bool xr,.bool xw] 55)
    have hx1 := heap_alloc_last wr (.cells #[.string X,.bool xr,.bool xw] 55)
    have HBx := Lib.hid (HB.out.trans (hb1.mono HB.out.size))
    have HOx := Lib.hid (HO.out.keep hb1)
    have HX1 := Lib.hid hx1
    clear hst hx hX hbl HO hkl
    go_upto_region 5 with fail
    generalize hg : wr.heap.size = g at HX1 ⊢
    generalize wr.alloc _ = w3 at HBx HOx HX1 ⊢
    have x0 : w3.cell? ⟨g,0,none⟩ = some (.string X) := by rw [cell_of_row _ _ _ _ _ _ HX1.out]; rfl
    have x1 : w3.cell? ⟨g,1,none⟩ = some (.bool xr) := by rw [cell_of_row _ _ _ _ _ _ HX1.out]; rfl
    have x2 : w3.cell? ⟨g,2,none⟩ = some (.bool xw) := by rw [cell_of_row _ _ _ _ _ _ HX1.out]; rfl
    clear u0 u1 u2 hb1 hx1 HB hg
    go_wp2_with fail
    with_reducible refine (CF.out _ _ _ _).mono ?_
    rintro e w4 ⟨rfl,hb4⟩
    have x0 : w4.cell? ⟨g,0,none⟩ = some (.string X) := by rw [hb4.cell (p := ⟨g,0,none⟩) (Array.getElem?_eq_some_iff.1 HX1.out).1]; exact x0
    have HO1 := Lib.hid ((HOx.out.keep hb4).keep (show Below w4.heap.size w4 (w4.alloc (.cells #[.string X] strE.ty)) from Kit.below1 _ _))
    have HB4 := Lib.hid (HBx.out.trans (hb4.mono HBx.out.size))
    have HBa := Lib.hid (HB4.out.alloc HB4.out.size (.cells #[.string X] strE.ty))
    clear hb4 HOx HBx HX1 HB4 x1 x2
    go_wp2_with (at_builtin; refine wpList_append_r strE (w0 := w) rfl (.tmp 17) (.tmp 20) rfl _ _ rfl HO1.out HBa.out w4.heap.size x 1 rfl (HC.out w4) hol ?_; intro v' w5 hown1 hb5)
    go_roundw
    case rel => exact ⟨k + 1,by omega,by go_num,Lib.hid (by rw [HSt.out]; exact hown1),Lib.hid hb5⟩
    case measure => simp [intOf]; omega
  · have d1 : decide ((k : Int) < (n : Int)) = false := decide_eq_false (by omega)
    have HA := Lib.hid (ans_row (w := w) (show OwnR strE w.heap.size wr _ (L.map (·.pat)) by
     have := HO.out
     rwa [List.take_of_length_le (by rw [HN.out]; omega)] at this) (by rw [List.length_map,HN.out]; exact HF.out) HB.out)
    go_wp2_with fail
    go_ret
    exact HA.out
theorem ev_x (args : Array Value) (W : World) : (callFunc 85 args).run Tryz.prog W = .ok (.enter 85 args) W := by kernel_rfl
theorem ev_c (X : ByteArray) (r w : Bool) (g : Nat) (W : World) (h : W.cell? ⟨g,0,none⟩ = some (.func (.func 42) #[] #[])) :
  Calls Tryz.prog 85 #[.agg #[.string X,.bool r,.bool w],.pointer (some ⟨g,0,none⟩)] W fun e w' => e = .returned (.bool (!(r || w))) ∧ Below W.heap.size W w' := by
 have CF := Lib.hid (fun W => rw_c X r w W)
 have hE := grw_x
 have hlt : g < W.heap.size := World.block_lt_of_cell? W _ h
 have hb := Kit.below1 W (.cells #[.string X,.bool r,.bool w] 55)
 have c0 : (W.alloc (.cells #[.string X,.bool r,.bool w] 55)).cell? ⟨g,0,none⟩ = some (.func (.func 42) #[] #[]) := by rw [hb.cell (p := ⟨g,0,none⟩) hlt]; exact h
 obtain ⟨B,hB⟩ : ∃ B,B = (r || w) := ⟨_,rfl⟩
 rw [← hB] at CF ⊢
 have HB := Lib.hid hb
 clear hB hb hlt
 go_enter Tryz.func85,Tryz.ntmps85
 go_wp2_with fail
 with_reducible refine (CF.out _).mono ?_
 rintro e w2 ⟨rfl,hb2⟩
 cases B
 all_goals
  go_wp2_with fail
  go_ret
  exact ⟨rfl,HB.out.trans (hb2.mono HB.out.size)⟩
set_option maxHeartbeats 1000000 in
theorem every_any (q : Option Addr) (L : List KG) (n c : Nat) (w : World) (h : RowIn glE w q n c L) :
  Calls Tryz.prog 41 #[.slice q n c,.func (.func 42) #[] #[]] w fun e w' => e = .returned (.bool (L.all fun g => g.r || g.w)) ∧ Below w.heap.size w w' := by
 obtain ⟨t,ht⟩ : ∃ t,t = (.cells #[.func (.func 42) #[] #[]] 66 : Obj) := ⟨_,rfl⟩
 have hb := Kit.below1 w t
 have hx := heap_alloc_last w t
 generalize hW1 : w.alloc t = W1 at hb hx
 subst ht
 have HH := Lib.hid (hasf_g 85 ev_x #[.pointer (some ⟨w.heap.size,0,none⟩)] (fun g => !(g.r || g.w)) q L n c W1 (h.keep hb) (fun W hW x X _ _ => ev_c X x.r x.w w.heap.size W (by
  rw [hW.cell (p := ⟨w.heap.size,0,none⟩) (Array.getElem?_eq_some_iff.1 hx).1,cell_of_row _ _ _ _ _ _ hx]
  rfl)))
 have hv : (L.all fun g => g.r || g.w) = !(L.any fun g => !(g.r || g.w)) := by
  rw [← List.not_all_eq_any_not]
  simp
 rw [hv]
 generalize (L.any fun g => !(g.r || g.w)) = B at HH ⊢
 have HB := Lib.hid hb
 have HW := Lib.hid hW1
 clear hv hx hb hW1 h
 go_enter Tryz.func41,Tryz.ntmps41
 go_upto_region 1 with fail
 rw [HW.out]
 go_wp2_with fail
 with_reducible refine HH.out.mono ?_
 rintro e w2 ⟨rfl,hb2⟩
 cases B
 all_goals
  go_wp2_with fail
  go_ret
  exact ⟨rfl,HB.out.trans (hb2.mono HB.out.size)⟩
end Go.Proofs.YtpoinibckmbfcaaGreatDoor.UserM
