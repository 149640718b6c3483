/-
  Packed by program.
-/
import Derived.Test.YtpoinibckmbfcaaGreatDoorPk18
import Derived.Test.YtpoinibckmbfcaaGreatDoorPk18
import Derived.Test.YtpoinibckmbfcaaGreatDoorPk18
namespace Go.Proofs.YtpoinibckmbfcaaGreatDoor.UserM
open Go.RowKit Kit StrT RowG RuleT UserT UserR TableMath Low ValT RefUser
open Go.Sort (grow)
open RefRule (results_cell_slot)
set_option linter.unusedVariables false
set_option maxRecDepth 100000
structure CB (w0 w : World) (F : Nat → Prop) (cs r : Array Value) (wr : World) : Prop where
 ot : ∀ k,k < w.heap.size → ¬ F k → wr.heap[k]? = w.heap[k]?
 bl : Below w0.heap.size w0 wr
 hl : w0.heap.size ≤ w.heap.size
 bx : wr.heap[w.heap.size]? = some (.cells cs 26 (0,0))
 br : wr.heap[w.heap.size + 1]? = some (.cells r 29 (0,0))
 bz : wr.heap[w.heap.size + 2]? = some (.cells ucs0 26 (0,0))
def RowTy (w : World) (k : Nat) : Prop := ∃ cs t,w.heap[k]? = some (.cells cs t (0,0)) ∧ t ≠ 26
theorem RowTy.same {w w' : World} {k : Nat} (h : RowTy w k) (e : w'.heap[k]? = w.heap[k]?) : RowTy w' k := by
 obtain ⟨cs,t,h1,h2⟩ := h
 exact ⟨cs,t,by rw [e]; exact h1,h2⟩
theorem RowTy.ne {w : World} {k g : Nat} {cs : Array Value} (h : RowTy w k) (hg : w.heap[g]? = some (.cells cs 26 (0,0))) : k ≠ g := by
 rintro rfl
 obtain ⟨cs2,t,h1,h2⟩ := h
 rw [h1] at hg
 injection hg with hg
 injection hg with _ h3
 exact h2 h3
theorem own_ty {α : Type} {E : Enc α} {base : Nat} {w : World} {q : Option Addr} {n c : Nat} {L : List α} (h : OwnR E base w (.slice q n c) L) (hE : E.ty ≠ 26) (a : Addr) (ha : q = some a) : RowTy w a.block := by
 rcases h.2 with ⟨e,-⟩ | ⟨g,cap,cur,e,-,hh,-⟩
 · injection e with e1
   rw [e1] at ha
   cases ha
 · injection e with e1
   rw [e1] at ha
   injection ha with ha
   rw [← ha]
   exact ⟨cur,E.ty,hh,hE⟩
theorem UO.ty {w0 w : World} {p : UP} (h : UO w0 w p) (k : Nat) (hk : p.at_ k) : RowTy w k := by
 rcases hk with ⟨-,a,e,rfl⟩ | ⟨-,a,e,rfl⟩ | ⟨-,a,e,rfl⟩
 · exact own_ty h.h (by decide) a e
 · exact own_ty h.k (by decide) a e
 · exact own_ty h.c (by decide) a e
structure CP (w0 w : World) (p : UP) (wr : World) : Prop where
 ip : UIn wr p
 ge : ∀ k,p.at_ k → w0.heap.size ≤ k
 ne : ∀ k,p.at_ k → k ≠ w.heap.size ∧ k ≠ w.heap.size + 1 ∧ k ≠ w.heap.size + 2
 ty : ∀ k,p.at_ k → RowTy wr k
section
variable {w0 w wr w' : World} {F : Nat → Prop} {cs r : Array Value} {p : UP}
theorem CB.lt (h : CB w0 w F cs r wr) : w.heap.size + 2 < wr.heap.size := (Array.getElem?_eq_some_iff.1 h.bz).1
theorem CB.keep (h : CB w0 w F cs r wr) (hb : Below wr.heap.size wr w') : CB w0 w F cs r w' := by
 have hl := h.lt
 exact ⟨fun k hk hF => (hb.block k (by omega)).trans (h.ot k hk hF),h.bl.trans (hb.mono h.bl.size),h.hl,by rw [hb.block _ (by omega)]; exact h.bx,by rw [hb.block _ (by omega)]; exact h.br,by rw [hb.block _ hl]; exact h.bz⟩
theorem CB.put (h : CB w0 w F cs r wr) (j : Nat) (v : Value) : CB w0 w F (cs.setIfInBounds j v) r (wr.setCell ⟨w.heap.size,j,none⟩ v) := by
 have ho : ∀ k,k ≠ w.heap.size → (wr.setCell ⟨w.heap.size,j,none⟩ v).heap[k]? = wr.heap[k]? := fun k hk => heap_setCell_other _ _ _ _ hk
 exact ⟨fun k hk hF => (ho k (by omega)).trans (h.ot k hk hF),h.bl.setCell (p := ⟨w.heap.size,j,none⟩) h.hl v,h.hl,heap_setCell_same _ _ j _ _ v h.bx,by rw [ho _ (by omega)]; exact h.br,by rw [ho _ (by omega)]; exact h.bz⟩
theorem CB.all (h : CB w0 w F cs r wr) (cs' : Array Value) : CB w0 w F cs' r (wr.setRow w.heap.size cs') :=
 ⟨fun k hk hF => (setRow_other _ _ _ _ (by omega)).trans (h.ot k hk hF),below_setRow h.bl h.hl _,h.hl,setRow_heap _ _ _ _ _ _ h.bx,by rw [setRow_other _ _ _ _ (by omega)]; exact h.br,by rw [setRow_other _ _ _ _ (by omega)]; exact h.bz⟩
theorem CB.new (hb : Below w0.heap.size w0 w) (F : Nat → Prop) (cs r : Array Value) : CB w0 w F cs r (((w.alloc (.cells cs 26)).alloc (.cells r 29)).alloc (.cells ucs0 26)) := by
 have b1 := Kit.below1 w (.cells cs 26)
 have b2 := b1.alloc b1.size (.cells r 29)
 have b3 := b2.alloc b2.size (.cells ucs0 26)
 refine ⟨fun k hk _ => b3.block k hk,hb.trans (b3.mono hb.size),hb.size,?_,?_,?_⟩
 · rw [(Kit.below1 _ _).block _ (by simp; omega),(Kit.below1 _ _).block _ (by simp)]
   exact heap_alloc_last w _
 · rw [(Kit.below1 _ _).block _ (by simp)]
   have := heap_alloc_last (w.alloc (.cells cs 26)) (.cells r 29)
   simpa using this
 · have := heap_alloc_last ((w.alloc (.cells cs 26)).alloc (.cells r 29)) (.cells ucs0 26)
   simpa using this
theorem below_three (w : World) (o1 o2 o3 : Obj) : Below w.heap.size w (((w.alloc o1).alloc o2).alloc o3) := by
 have b1 := Kit.below1 w o1
 have b2 := b1.alloc b1.size o2
 exact b2.alloc b2.size o3
theorem CP.keep (h : CP w0 w p wr) (hb : Below wr.heap.size wr w') : CP w0 w p w' := ⟨h.ip.keep hb,h.ge,h.ne,fun k hk => (h.ty k hk).same (hb.block k (h.ip.lt k hk))⟩
theorem CP.put (h : CP w0 w p wr) (j : Nat) (v : Value) : CP w0 w p (wr.setCell ⟨w.heap.size,j,none⟩ v) :=
 ⟨h.ip.same (by simp) (fun k hk => heap_setCell_other _ _ _ _ (h.ne k hk).1),h.ge,h.ne,fun k hk => (h.ty k hk).same (heap_setCell_other _ _ _ _ (h.ne k hk).1)⟩
theorem CP.all (h : CP w0 w p wr) (cs : Array Value) : CP w0 w p (wr.setRow w.heap.size cs) :=
 ⟨UIn.row h.ip _ (fun k hk => (h.ne k hk).1),h.ge,h.ne,fun k hk => (h.ty k hk).same (setRow_other _ _ _ _ (h.ne k hk).1)⟩
theorem CP.of {p : UP} (h : UO w0 w p) (hb : Below w.heap.size w wr) : CP w0 w p wr :=
 ⟨h.i.keep hb,fun k hk => (h.at_ k hk).1,fun k hk => by have := (h.at_ k hk).2; omega,fun k hk => (UO.ty h k hk).same (hb.block k (h.at_ k hk).2)⟩
def ChA (w0 w : World) (F : Nat → Prop) (o : Option UV) (e : Ending) (w' : World) : Prop := ∃ (p' : UP) (ok : Bool),e = .returned (.tuple #[p'.agg,.bool ok]) ∧ ok = o.isSome ∧ (∀ d,o = some d → p'.d = d ∧ UIn w' p' ∧ ∀ k,p'.at_ k → w0.heap.size ≤ k ∧ RowTy w' k) ∧ Below w0.heap.size w0 w' ∧ (∀ k,k < w.heap.size → ¬ F k → w'.heap[k]? = w.heap[k]?) ∧ w.heap.size ≤ w'.heap.size
theorem ch_end (hB : CB w0 w F cs r wr) (hP : CP w0 w p wr) (d : UV) (hd : p.d = d) : ChA w0 w F (some d) (.returned (.tuple #[p.agg,.bool true])) (wr.setRow (w.heap.size + 2) (ucs p)) :=
 ⟨p,true,rfl,rfl,fun d' e => ⟨hd.trans (Option.some.inj e),UIn.row hP.ip _ (fun k hk => (hP.ne k hk).2.2),fun k hk => ⟨hP.ge k hk,(hP.ty k hk).same (setRow_other _ _ _ _ (hP.ne k hk).2.2)⟩⟩,below_setRow hB.bl (by have := hB.hl; omega) _,fun k hk hF => (setRow_other _ _ _ _ (by omega)).trans (hB.ot k hk hF),by have := hB.lt; simp; omega⟩
theorem ch_none (hB : CB w0 w F cs r wr) (p : UP) : ChA w0 w F none (.returned (.tuple #[p.agg,.bool false])) (wr.setRow (w.heap.size + 2) (ucs p)) :=
 ⟨p,false,rfl,rfl,(fun d2 e => by cases e),below_setRow hB.bl (by have := hB.hl; omega) _,fun k hk hF => (setRow_other _ _ _ _ (by omega)).trans (hB.ot k hk hF),by have := hB.lt; simp; omega⟩
theorem own_apart {α : Type} {E : Enc α} {base g : Nat} {w : World} {v : Value} {L : List α} {cs : Array Value} {t : TypeId} {mk : Nat × Nat} (h : OwnR E base w v L) (hg : w.heap[g]? = some (.cells cs t mk)) (ht : E.ty ≠ t) : ∀ k,v.ownBlock = some k → k ≠ g := by
 intro k hk e
 subst e
 rcases h.2 with ⟨e,-⟩ | ⟨g,cap,cur,e,-,hh,-⟩
 · rw [e] at hk
   cases hk
 · rw [e] at hk
   injection hk with hk
   rw [← hk,hh] at hg
   injection hg with hg
   injection hg with _ h2
   exact ht h2
theorem CB.gr {α : Type} {E : Enc α} {v v' : Value} {L L' : List α} (h : CB w0 w F cs r wr) (ho : OwnR E w0.heap.size wr v L) (hs : StepR E w0 wr w' v v' L') (h1 : E.ty ≠ 26) (h2 : E.ty ≠ 29) (hF : ∀ k,v.ownBlock = some k → F k) : CB w0 w F cs r w' := by
 have hl := h.lt
 have hx := own_apart ho h.bx h1
 have hr := own_apart ho h.br h2
 have hz := own_apart ho h.bz h1
 exact ⟨fun k hk hn => (hs.gr.block k (by omega) (fun e => hn (hF k e.symm))).trans (h.ot k hk hn),hs.bl,h.hl,by rw [hs.gr.block _ (by omega) (fun e => hx _ e.symm rfl)]; exact h.bx,by rw [hs.gr.block _ (by omega) (fun e => hr _ e.symm rfl)]; exact h.br,by rw [hs.gr.block _ hl (fun e => hz _ e.symm rfl)]; exact h.bz⟩
theorem CB.rest (h : CB w0 w F cs r wr) {α : Type} {E : Enc α} {v : Value} {L : List α} (ho : OwnR E w0.heap.size wr v L) (h1 : E.ty ≠ 26) (h2 : E.ty ≠ 29) : ∀ k,v.ownBlock = some k → k ≠ w.heap.size ∧ k ≠ w.heap.size + 1 ∧ k ≠ w.heap.size + 2 :=
 fun k hk => ⟨own_apart ho h.bx h1 k hk,own_apart ho h.br h2 k hk,own_apart ho h.bz h1 k hk⟩
theorem row_gr {α β : Type} {E : Enc α} {F : Enc β} {q : Option Addr} {n c : Nat} {L : List β} {v v' : Value} {L' : List α} (h : RowIn F wr q n c L) (hO : OwnR F w0.heap.size wr (.slice q n c) L) (hs : StepR E w0 wr w' v v' L') (hn : ∀ b,v.ownBlock = some b → (Value.slice q n c).ownBlock ≠ some b) : RowIn F w' q n c L :=
 h.same hs.gr.size (fun a h0 e => hs.gr.block _ (h.lt h0 a e) (fun e2 => hn _ e2.symm (own_addr hO a e)))
theorem CP.hss {q2 : Option Addr} {n2 c2 : Nat} {L2 : List (List UInt8)} (h : UO w0 wr p) (hB : CB w0 w F cs r wr) (hl : ∀ k,p.at_ k → k < w.heap.size) (hs : StepR strE w0 wr w' p.vh (.slice q2 n2 c2) L2) (hB2 : CB w0 w F cs r w') (hn : n2 ≤ 1048576) (np : Bool) :
  CP w0 w ⟨p.N,p.on,np,q2,n2,c2,p.m,p.qk,p.nk,p.ck,p.qc,p.nc,p.cc,{ p.d with np := np,hs := L2 }⟩ w' := by
 have h1 : strE.ty ≠ 26 := by decide
 have h2 : strE.ty ≠ 29 := by decide
 refine ⟨⟨h.i.en,h.i.eo,rfl,h.i.em,h.i.mb,own_in hs.ow hn,row_gr h.i.k h.k hs h.hk,row_gr h.i.c h.c hs h.hc⟩,?_,?_,?_⟩
 · rintro k (⟨-,a,e,rfl⟩ | hk | hk)
   · exact (OwnR.blt hs.ow _ (own_addr hs.ow a e)).1
   · exact (h.at_ k (Or.inr (Or.inl hk))).1
   · exact (h.at_ k (Or.inr (Or.inr hk))).1
 · rintro k (⟨-,a,e,rfl⟩ | hk | hk)
   · exact hB2.rest hs.ow h1 h2 _ (own_addr hs.ow a e)
   · have := hl k (Or.inr (Or.inl hk))
     omega
   · have := hl k (Or.inr (Or.inr hk))
     omega
 · rintro k (⟨-,a,e,rfl⟩ | hk | hk)
   · exact own_ty hs.ow (by decide) a e
   · obtain ⟨h0,a,e,rfl⟩ := hk
     exact (UO.ty h _ (Or.inr (Or.inl ⟨h0,a,e,rfl⟩))).same (hs.gr.block _ (h.at_ _ (Or.inr (Or.inl ⟨h0,a,e,rfl⟩))).2 (fun e2 => (h.hk _ e2.symm) (own_addr h.k a e)))
   · obtain ⟨h0,a,e,rfl⟩ := hk
     exact (UO.ty h _ (Or.inr (Or.inr ⟨h0,a,e,rfl⟩))).same (hs.gr.block _ (h.at_ _ (Or.inr (Or.inr ⟨h0,a,e,rfl⟩))).2 (fun e2 => (h.hc _ e2.symm) (own_addr h.c a e)))
theorem CP.chs {q2 : Option Addr} {n2 c2 : Nat} {L2 : List (List UInt8)} (h : UO w0 wr p) (hB : CB w0 w F cs r wr) (hl : ∀ k,p.at_ k → k < w.heap.size) (hs : StepR strE w0 wr w' p.vc (.slice q2 n2 c2) L2) (hB2 : CB w0 w F cs r w') (hn : n2 ≤ 1048576) :
  CP w0 w ⟨p.N,p.on,p.np,p.qh,p.nh,p.ch,p.m,p.qk,p.nk,p.ck,q2,n2,c2,{ p.d with cs := L2 }⟩ w' := by
 have h1 : strE.ty ≠ 26 := by decide
 have h2 : strE.ty ≠ 29 := by decide
 refine ⟨⟨h.i.en,h.i.eo,h.i.ep,h.i.em,h.i.mb,row_gr h.i.h h.h hs (fun b hb e => h.hc b e hb),row_gr h.i.k h.k hs (fun b hb e => h.kc b e hb),own_in hs.ow hn⟩,?_,?_,?_⟩
 · rintro k (hk | hk | ⟨-,a,e,rfl⟩)
   · exact (h.at_ k (Or.inl hk)).1
   · exact (h.at_ k (Or.inr (Or.inl hk))).1
   · exact (OwnR.blt hs.ow _ (own_addr hs.ow a e)).1
 · rintro k (hk | hk | ⟨-,a,e,rfl⟩)
   · have := hl k (Or.inl hk)
     omega
   · have := hl k (Or.inr (Or.inl hk))
     omega
   · exact hB2.rest hs.ow h1 h2 _ (own_addr hs.ow a e)
 · rintro k (hk | hk | ⟨-,a,e,rfl⟩)
   · obtain ⟨h0,a,e,rfl⟩ := hk
     exact (UO.ty h _ (Or.inl ⟨h0,a,e,rfl⟩)).same (hs.gr.block _ (h.at_ _ (Or.inl ⟨h0,a,e,rfl⟩)).2 (fun e2 => (fun e3 => h.hc _ e3 e2.symm) (own_addr h.h a e)))
   · obtain ⟨h0,a,e,rfl⟩ := hk
     exact (UO.ty h _ (Or.inr (Or.inl ⟨h0,a,e,rfl⟩))).same (hs.gr.block _ (h.at_ _ (Or.inr (Or.inl ⟨h0,a,e,rfl⟩))).2 (fun e2 => (fun e3 => h.kc _ e3 e2.symm) (own_addr h.k a e)))
   · exact own_ty hs.ow (by decide) a e
theorem CP.kss {q2 : Option Addr} {n2 c2 : Nat} {L2 : List KG} (h : UO w0 wr p) (hB : CB w0 w F cs r wr) (hl : ∀ k,p.at_ k → k < w.heap.size) (hs : StepR glE w0 wr w' p.vk (.slice q2 n2 c2) L2) (hB2 : CB w0 w F cs r w') (hn : n2 ≤ 1048576) :
  CP w0 w ⟨p.N,p.on,p.np,p.qh,p.nh,p.ch,p.m,q2,n2,c2,p.qc,p.nc,p.cc,{ p.d with ks := L2 }⟩ w' := by
 have h1 : glE.ty ≠ 26 := by decide
 have h2 : glE.ty ≠ 29 := by decide
 refine ⟨⟨h.i.en,h.i.eo,h.i.ep,h.i.em,h.i.mb,row_gr h.i.h h.h hs (fun b hb e => h.hk b e hb),own_in hs.ow hn,row_gr h.i.c h.c hs h.kc⟩,?_,?_,?_⟩
 · rintro k (hk | ⟨-,a,e,rfl⟩ | hk)
   · exact (h.at_ k (Or.inl hk)).1
   · exact (OwnR.blt hs.ow _ (own_addr hs.ow a e)).1
   · exact (h.at_ k (Or.inr (Or.inr hk))).1
 · rintro k (hk | ⟨-,a,e,rfl⟩ | hk)
   · have := hl k (Or.inl hk)
     omega
   · exact hB2.rest hs.ow h1 h2 _ (own_addr hs.ow a e)
   · have := hl k (Or.inr (Or.inr hk))
     omega
 · rintro k (hk | ⟨-,a,e,rfl⟩ | hk)
   · obtain ⟨h0,a,e,rfl⟩ := hk
     exact (UO.ty h _ (Or.inl ⟨h0,a,e,rfl⟩)).same (hs.gr.block _ (h.at_ _ (Or.inl ⟨h0,a,e,rfl⟩)).2 (fun e2 => (fun e3 => h.hk _ e3 e2.symm) (own_addr h.h a e)))
   · exact own_ty hs.ow (by decide) a e
   · obtain ⟨h0,a,e,rfl⟩ := hk
     exact (UO.ty h _ (Or.inr (Or.inr ⟨h0,a,e,rfl⟩))).same (hs.gr.block _ (h.at_ _ (Or.inr (Or.inr ⟨h0,a,e,rfl⟩))).2 (fun e2 => (h.kc _ e2.symm) (own_addr h.c a e)))
end
theorem more_len (l : List (List UInt8)) (s : List UInt8) : (moreL l s).length ≤ l.length + 1 := by
 unfold moreL
 split
 · omega
 · rw [List.length_append]
   exact Nat.le_refl _
theorem keys_len : ∀ (l : List KG) (s : List UInt8) (a b : Bool),(keysL l s a b).length ≤ l.length + 1
  | [],s,a,b => Nat.le_refl _
  | g :: t,s,a,b => by
    by_cases h : g.pat = s
    · rw [keysL,if_pos h]
      simp
    · rw [keysL,if_neg h,List.length_cons,List.length_cons]
      have := keys_len t s a b
      omega
theorem new_none {w : World} {p : UP} (hi : UIn w p) {n : List UInt8} (hd : p.d = newU n) (k : Nat) : ¬ p.at_ k := by
 have h1 := hi.h.l
 have h2 := hi.k.l
 have h3 := hi.c.l
 rw [hd] at h1 h2 h3
 rintro (⟨h0,-⟩ | ⟨h0,-⟩ | ⟨h0,-⟩)
 · rw [← h1] at h0
   exact absurd h0 (Nat.lt_irrefl 0)
 · rw [← h2] at h0
   exact absurd h0 (Nat.lt_irrefl 0)
 · rw [← h3] at h0
   exact absurd h0 (Nat.lt_irrefl 0)
def ownF (p : UP) (k : Nat) : Prop := p.vh.ownBlock = some k ∨ p.vk.ownBlock = some k ∨ p.vc.ownBlock = some k
def ChG (w0 w : World) (p : UP) (k : Int) (T : ByteArray) (a b : Bool) (m : Int) (sq : Option Addr) (sn sc : Nat) (n : Int) (o : Option UV) : Prop :=
 Calls Tryz.prog 24 #[p.agg,.agg #[.int .u8 k,.string T,.bool a,.bool b,.int .u64 m],.slice sq sn sc,.int .i64 n] w (ChA w0 w (ownF p) o)
end Go.Proofs.YtpoinibckmbfcaaGreatDoor.UserM
namespace Go.Proofs.YtpoinibckmbfcaaGreatDoor.UserM
open Go.RowKit Kit StrT RowG RuleT UserT UserR TableMath Low ValT RefUser
open Go.Sort (grow)
open RefRule (results_cell_slot)
set_option linter.unusedVariables false
set_option maxRecDepth 100000
set_option maxHeartbeats 4000000 in
theorem ch_1 (w0 w : World) (p : UP) (m : Nat) (T : ByteArray) (a b : Bool) (sq : Option Addr) (sn sc : Nat) (n : Int) (h : UO w0 w p) (hm : m < 18446744073709551616) (hf : p.nh ≤ 64 ∧ p.nk ≤ 64 ∧ p.nc ≤ 64) :
  ChG w0 w p 1 T a b (m : Int) sq sn sc n (some (setU p.d ⟨1,T.data.toList,a,b,m⟩ [])) := by
 have HB := Lib.hid (CB.new (w := w) h.bl (ownF p) (ucs p) #[.int .u8 1,.string T,.bool a,.bool b,.int .u64 (m : Int)])
 have hb3 := below_three w (.cells (ucs p) 26) (.cells #[.int .u8 1,.string T,.bool a,.bool b,.int .u64 (m : Int)] 29) (.cells ucs0 26)
 have HP := Lib.hid (CP.of h hb3)
 have HU := Lib.hid (h.keep hb3)
 have HLt := Lib.hid (fun k hk => (h.at_ k hk).2)
 have HEm := Lib.hid (And.intro h.i.em h.i.mb)
 unfold ChG
 obtain ⟨N,on,np,qh,nh,ch,mm,qk,nk,ck,qc,nc,cc,d⟩ := p
 obtain ⟨hf1,hf2,hf3⟩ := hf
 simp only [ucs,ucs0] at HB HP HU HEm hf1 hf2 hf3
 clear h hb3
 show Calls Tryz.prog 24 #[.agg #[.string N,.bool on,.bool np,.slice qh nh ch,.int .u64 mm,.slice qk nk ck,.slice qc nc cc],.agg #[.int .u8 1,.string T,.bool a,.bool b,.int .u64 (m : Int)],.slice sq sn sc,.int .i64 n] w _
 go_enter Tryz.func24,Tryz.ntmps24
 go_upto_region 1 with fail
 generalize ((w.alloc _).alloc _).alloc _ = w1 at HB HP HU ⊢
 obtain ⟨c0,c1,c2,c3,c4⟩ := box_cells HB.out.br
 obtain ⟨u0,u1,u2,u3,u4,u5,u6⟩ := u_cells HB.out.bx
 have fz := fun j => frozen_of_row _ _ j _ _ HB.out.bx
 have f0 := fz 0
 have f1 := fz 1
 have f2 := fz 2
 have f3 := fz 3
 have f4 := fz 4
 have f5 := fz 5
 have f6 := fz 6
 clear fz
 have HB1 := Lib.hid (HB.out.put 1 (.bool true))
 have HP10 := Lib.hid (HP.out.put 1 (.bool true))
 have HB1x : Hid (CB w0 w _ #[.string N,.bool true,.bool np,.slice qh nh ch,.int .u64 mm,.slice qk nk ck,.slice qc nc cc] _ _) := HB1
 clear HB1
 have HB1 := HB1x
 clear HB1x HB HP
 go_upto_region 31 with fail
 generalize World.setCell _ _ _ = v1 at HB1 HP10 ⊢
 have HP1 : Hid (CP w0 w ⟨N,true,np,qh,nh,ch,mm,qk,nk,ck,qc,nc,cc,{ d with on := true }⟩ v1) := Lib.hid ⟨{ HP10.out.ip with eo := rfl },fun k hk => HP10.out.ge k hk,fun k hk => HP10.out.ne k hk,fun k hk => HP10.out.ty k hk⟩
 clear HP10
 clear c0 c1 c2 c3 c4 u0 u1 u2 u3 u4 u5 u6 f0 f1 f2 f3 f4 f5 f6
 obtain ⟨c0,c1,c2,c3,c4⟩ := box_cells HB1.out.br
 obtain ⟨u0,u1,u2,u3,u4,u5,u6⟩ := u_cells HB1.out.bx
 have fz := fun j => frozen_of_row _ _ j _ _ HB1.out.bx
 have f0 := fz 0
 have f1 := fz 1
 have f2 := fz 2
 have f3 := fz 3
 have f4 := fz 4
 have f5 := fz 5
 have f6 := fz 6
 clear fz
 have HE := Lib.hid (ch_end HB1.out HP1.out _ rfl)
 have HC9 := Lib.hid (ucs_size ⟨N,true,np,qh,nh,ch,mm,qk,nk,ck,qc,nc,cc,{ d with on := true }⟩)
 have HO9 := Lib.hid (user_one (N) (true) (np) (qh) (qk) (qc) (nh) (ch) (nk) (ck) (nc) (cc) (mm))
 simp only [ucs] at HC9
 go_wp2_with (with_reducible refine wpList_store_row rfl 26 (.tmp 8) (.tmp 106) rfl (w.heap.size + 2) #[.string N,.bool true,.bool np,.slice qh nh ch,.int .u64 mm,.slice qk nk ck,.slice qc nc cc] rfl rfl 26 _ HB1.out.bz HC9.out rfl HO9.out ?_)
 exact bodyPost_ret (results_cell_slot rfl _ _ (w.heap.size + 2) 26 #[.string N,.bool true,.bool np,.slice qh nh ch,.int .u64 mm,.slice qk nk ck,.slice qc nc cc] (0,0) _ (.bool true) rfl (setRow_heap _ (w.heap.size + 2) _ _ _ _ HB1.out.bz) Tryz.underlying26 rfl HC9.out rfl) rfl HE.out
set_option maxHeartbeats 4000000 in
theorem ch_2 (w0 w : World) (p : UP) (m : Nat) (T : ByteArray) (a b : Bool) (sq : Option Addr) (sn sc : Nat) (n : Int) (h : UO w0 w p) (hm : m < 18446744073709551616) (hf : p.nh ≤ 64 ∧ p.nk ≤ 64 ∧ p.nc ≤ 64) :
  ChG w0 w p 2 T a b (m : Int) sq sn sc n (some (setU p.d ⟨2,T.data.toList,a,b,m⟩ [])) := by
 have HB := Lib.hid (CB.new (w := w) h.bl (ownF p) (ucs p) #[.int .u8 2,.string T,.bool a,.bool b,.int .u64 (m : Int)])
 have hb3 := below_three w (.cells (ucs p) 26) (.cells #[.int .u8 2,.string T,.bool a,.bool b,.int .u64 (m : Int)] 29) (.cells ucs0 26)
 have HP := Lib.hid (CP.of h hb3)
 have HU := Lib.hid (h.keep hb3)
 have HLt := Lib.hid (fun k hk => (h.at_ k hk).2)
 have HEm := Lib.hid (And.intro h.i.em h.i.mb)
 unfold ChG
 obtain ⟨N,on,np,qh,nh,ch,mm,qk,nk,ck,qc,nc,cc,d⟩ := p
 obtain ⟨hf1,hf2,hf3⟩ := hf
 simp only [ucs,ucs0] at HB HP HU HEm hf1 hf2 hf3
 clear h hb3
 show Calls Tryz.prog 24 #[.agg #[.string N,.bool on,.bool np,.slice qh nh ch,.int .u64 mm,.slice qk nk ck,.slice qc nc cc],.agg #[.int .u8 2,.string T,.bool a,.bool b,.int .u64 (m : Int)],.slice sq sn sc,.int .i64 n] w _
 go_enter Tryz.func24,Tryz.ntmps24
 go_upto_region 1 with fail
 generalize ((w.alloc _).alloc _).alloc _ = w1 at HB HP HU ⊢
 obtain ⟨c0,c1,c2,c3,c4⟩ := box_cells HB.out.br
 obtain ⟨u0,u1,u2,u3,u4,u5,u6⟩ := u_cells HB.out.bx
 have fz := fun j => frozen_of_row _ _ j _ _ HB.out.bx
 have f0 := fz 0
 have f1 := fz 1
 have f2 := fz 2
 have f3 := fz 3
 have f4 := fz 4
 have f5 := fz 5
 have f6 := fz 6
 clear fz
 have HB1 := Lib.hid (HB.out.put 1 (.bool false))
 have HP10 := Lib.hid (HP.out.put 1 (.bool false))
 have HB1x : Hid (CB w0 w _ #[.string N,.bool false,.bool np,.slice qh nh ch,.int .u64 mm,.slice qk nk ck,.slice qc nc cc] _ _) := HB1
 clear HB1
 have HB1 := HB1x
 clear HB1x HB HP
 go_upto_region 31 with fail
 generalize World.setCell _ _ _ = v1 at HB1 HP10 ⊢
 have HP1 : Hid (CP w0 w ⟨N,false,np,qh,nh,ch,mm,qk,nk,ck,qc,nc,cc,{ d with on := false }⟩ v1) := Lib.hid ⟨{ HP10.out.ip with eo := rfl },fun k hk => HP10.out.ge k hk,fun k hk => HP10.out.ne k hk,fun k hk => HP10.out.ty k hk⟩
 clear HP10
 clear c0 c1 c2 c3 c4 u0 u1 u2 u3 u4 u5 u6 f0 f1 f2 f3 f4 f5 f6
 obtain ⟨c0,c1,c2,c3,c4⟩ := box_cells HB1.out.br
 obtain ⟨u0,u1,u2,u3,u4,u5,u6⟩ := u_cells HB1.out.bx
 have fz := fun j => frozen_of_row _ _ j _ _ HB1.out.bx
 have f0 := fz 0
 have f1 := fz 1
 have f2 := fz 2
 have f3 := fz 3
 have f4 := fz 4
 have f5 := fz 5
 have f6 := fz 6
 clear fz
 have HE := Lib.hid (ch_end HB1.out HP1.out _ rfl)
 have HC9 := Lib.hid (ucs_size ⟨N,false,np,qh,nh,ch,mm,qk,nk,ck,qc,nc,cc,{ d with on := false }⟩)
 have HO9 := Lib.hid (user_one (N) (false) (np) (qh) (qk) (qc) (nh) (ch) (nk) (ck) (nc) (cc) (mm))
 simp only [ucs] at HC9
 go_wp2_with (with_reducible refine wpList_store_row rfl 26 (.tmp 8) (.tmp 106) rfl (w.heap.size + 2) #[.string N,.bool false,.bool np,.slice qh nh ch,.int .u64 mm,.slice qk nk ck,.slice qc nc cc] rfl rfl 26 _ HB1.out.bz HC9.out rfl HO9.out ?_)
 exact bodyPost_ret (results_cell_slot rfl _ _ (w.heap.size + 2) 26 #[.string N,.bool false,.bool np,.slice qh nh ch,.int .u64 mm,.slice qk nk ck,.slice qc nc cc] (0,0) _ (.bool true) rfl (setRow_heap _ (w.heap.size + 2) _ _ _ _ HB1.out.bz) Tryz.underlying26 rfl HC9.out rfl) rfl HE.out
set_option maxHeartbeats 4000000 in
theorem ch_3 (w0 w : World) (p : UP) (m : Nat) (T : ByteArray) (a b : Bool) (sq : Option Addr) (sn sc : Nat) (n : Int) (h : UO w0 w p) (hm : m < 18446744073709551616) (hf : p.nh ≤ 64 ∧ p.nk ≤ 64 ∧ p.nc ≤ 64) :
  ChG w0 w p 3 T a b (m : Int) sq sn sc n (some (setU p.d ⟨3,T.data.toList,a,b,m⟩ [])) := by
 have HB := Lib.hid (CB.new (w := w) h.bl (ownF p) (ucs p) #[.int .u8 3,.string T,.bool a,.bool b,.int .u64 (m : Int)])
 have hb3 := below_three w (.cells (ucs p) 26) (.cells #[.int .u8 3,.string T,.bool a,.bool b,.int .u64 (m : Int)] 29) (.cells ucs0 26)
 have HP := Lib.hid (CP.of h hb3)
 have HU := Lib.hid (h.keep hb3)
 have HLt := Lib.hid (fun k hk => (h.at_ k hk).2)
 have HEm := Lib.hid (And.intro h.i.em h.i.mb)
 unfold ChG
 obtain ⟨N,on,np,qh,nh,ch,mm,qk,nk,ck,qc,nc,cc,d⟩ := p
 obtain ⟨hf1,hf2,hf3⟩ := hf
 simp only [ucs,ucs0] at HB HP HU HEm hf1 hf2 hf3
 clear h hb3
 show Calls Tryz.prog 24 #[.agg #[.string N,.bool on,.bool np,.slice qh nh ch,.int .u64 mm,.slice qk nk ck,.slice qc nc cc],.agg #[.int .u8 3,.string T,.bool a,.bool b,.int .u64 (m : Int)],.slice sq sn sc,.int .i64 n] w _
 go_enter Tryz.func24,Tryz.ntmps24
 go_upto_region 1 with fail
 generalize ((w.alloc _).alloc _).alloc _ = w1 at HB HP HU ⊢
 obtain ⟨c0,c1,c2,c3,c4⟩ := box_cells HB.out.br
 obtain ⟨u0,u1,u2,u3,u4,u5,u6⟩ := u_cells HB.out.bx
 have fz := fun j => frozen_of_row _ _ j _ _ HB.out.bx
 have f0 := fz 0
 have f1 := fz 1
 have f2 := fz 2
 have f3 := fz 3
 have f4 := fz 4
 have f5 := fz 5
 have f6 := fz 6
 clear fz
 have HV := Lib.hid ((HB.out.put 2 (.bool true)).put 3 (.slice none 0 0))
 have HW := Lib.hid ((HP.out.put 2 (.bool true)).put 3 (.slice none 0 0))
 have HVx : Hid (CB w0 w _ #[.string N,.bool on,.bool true,.slice none 0 0,.int .u64 mm,.slice qk nk ck,.slice qc nc cc] _ _) := HV
 clear HV HB HP
 go_upto_region 31 with fail
 generalize World.setCell _ _ _ = v1 at HVx HW ⊢
 have HP1 : Hid (CP w0 w ⟨N,on,true,none,0,0,mm,qk,nk,ck,qc,nc,cc,{ d with np := true,hs := [] }⟩ v1) := Lib.hid ⟨{ HW.out.ip with ep := rfl,h := RowIn.nil _ _ },fun k hk => HW.out.ge k (by
  rcases hk with ⟨h0,_⟩ | h | h
  · exact absurd h0 (Nat.lt_irrefl 0)
  · exact Or.inr (Or.inl h)
  · exact Or.inr (Or.inr h)),fun k hk => HW.out.ne k (by
  rcases hk with ⟨h0,_⟩ | h | h
  · exact absurd h0 (Nat.lt_irrefl 0)
  · exact Or.inr (Or.inl h)
  · exact Or.inr (Or.inr h)),fun k hk => HW.out.ty k (by
  rcases hk with ⟨h0,_⟩ | h | h
  · exact absurd h0 (Nat.lt_irrefl 0)
  · exact Or.inr (Or.inl h)
  · exact Or.inr (Or.inr h))⟩
 clear HW
 clear c0 c1 c2 c3 c4 u0 u1 u2 u3 u4 u5 u6 f0 f1 f2 f3 f4 f5 f6
 obtain ⟨c0,c1,c2,c3,c4⟩ := box_cells HVx.out.br
 obtain ⟨u0,u1,u2,u3,u4,u5,u6⟩ := u_cells HVx.out.bx
 have fz := fun j => frozen_of_row _ _ j _ _ HVx.out.bx
 have f0 := fz 0
 have f1 := fz 1
 have f2 := fz 2
 have f3 := fz 3
 have f4 := fz 4
 have f5 := fz 5
 have f6 := fz 6
 clear fz
 have HE := Lib.hid (ch_end HVx.out HP1.out _ rfl)
 have HC9 := Lib.hid (ucs_size ⟨N,on,true,none,0,0,mm,qk,nk,ck,qc,nc,cc,{ d with np := true,hs := [] }⟩)
 have HO9 := Lib.hid (user_one (N) (on) (true) (none) (qk) (qc) (0) (0) (nk) (ck) (nc) (cc) (mm))
 simp only [ucs] at HC9
 go_wp2_with (with_reducible refine wpList_store_row rfl 26 (.tmp 8) (.tmp 106) rfl (w.heap.size + 2) #[.string N,.bool on,.bool true,.slice none 0 0,.int .u64 mm,.slice qk nk ck,.slice qc nc cc] rfl rfl 26 _ HVx.out.bz HC9.out rfl HO9.out ?_)
 exact bodyPost_ret (results_cell_slot rfl _ _ (w.heap.size + 2) 26 #[.string N,.bool on,.bool true,.slice none 0 0,.int .u64 mm,.slice qk nk ck,.slice qc nc cc] (0,0) _ (.bool true) rfl (setRow_heap _ (w.heap.size + 2) _ _ _ _ HVx.out.bz) Tryz.underlying26 rfl HC9.out rfl) rfl HE.out
set_option maxHeartbeats 4000000 in
theorem ch_4 (w0 w : World) (p : UP) (m : Nat) (T : ByteArray) (a b : Bool) (sq : Option Addr) (sn sc : Nat) (n : Int) (h : UO w0 w p) (hm : m < 18446744073709551616) (hf : p.nh ≤ 64 ∧ p.nk ≤ 64 ∧ p.nc ≤ 64) :
  ChG w0 w p 4 T a b (m : Int) sq sn sc n (some (setU p.d ⟨4,T.data.toList,a,b,m⟩ [])) := by
 have HB := Lib.hid (CB.new (w := w) h.bl (ownF p) (ucs p) #[.int .u8 4,.string T,.bool a,.bool b,.int .u64 (m : Int)])
 have hb3 := below_three w (.cells (ucs p) 26) (.cells #[.int .u8 4,.string T,.bool a,.bool b,.int .u64 (m : Int)] 29) (.cells ucs0 26)
 have HP := Lib.hid (CP.of h hb3)
 have HU := Lib.hid (h.keep hb3)
 have HLt := Lib.hid (fun k hk => (h.at_ k hk).2)
 have HEm := Lib.hid (And.intro h.i.em h.i.mb)
 unfold ChG
 obtain ⟨N,on,np,qh,nh,ch,mm,qk,nk,ck,qc,nc,cc,d⟩ := p
 obtain ⟨hf1,hf2,hf3⟩ := hf
 simp only [ucs,ucs0] at HB HP HU HEm hf1 hf2 hf3
 clear h hb3
 show Calls Tryz.prog 24 #[.agg #[.string N,.bool on,.bool np,.slice qh nh ch,.int .u64 mm,.slice qk nk ck,.slice qc nc cc],.agg #[.int .u8 4,.string T,.bool a,.bool b,.int .u64 (m : Int)],.slice sq sn sc,.int .i64 n] w _
 go_enter Tryz.func24,Tryz.ntmps24
 go_upto_region 1 with fail
 generalize ((w.alloc _).alloc _).alloc _ = w1 at HB HP HU ⊢
 obtain ⟨c0,c1,c2,c3,c4⟩ := box_cells HB.out.br
 obtain ⟨u0,u1,u2,u3,u4,u5,u6⟩ := u_cells HB.out.bx
 have fz := fun j => frozen_of_row _ _ j _ _ HB.out.bx
 have f0 := fz 0
 have f1 := fz 1
 have f2 := fz 2
 have f3 := fz 3
 have f4 := fz 4
 have f5 := fz 5
 have f6 := fz 6
 clear fz
 have HV := Lib.hid ((HB.out.put 2 (.bool false)).put 3 (.slice none 0 0))
 have HW := Lib.hid ((HP.out.put 2 (.bool false)).put 3 (.slice none 0 0))
 have HVx : Hid (CB w0 w _ #[.string N,.bool on,.bool false,.slice none 0 0,.int .u64 mm,.slice qk nk ck,.slice qc nc cc] _ _) := HV
 clear HV HB HP
 go_upto_region 31 with fail
 generalize World.setCell _ _ _ = v1 at HVx HW ⊢
 have HP1 : Hid (CP w0 w ⟨N,on,false,none,0,0,mm,qk,nk,ck,qc,nc,cc,{ d with np := false,hs := [] }⟩ v1) := Lib.hid ⟨{ HW.out.ip with ep := rfl,h := RowIn.nil _ _ },fun k hk => HW.out.ge k (by
  rcases hk with ⟨h0,_⟩ | h | h
  · exact absurd h0 (Nat.lt_irrefl 0)
  · exact Or.inr (Or.inl h)
  · exact Or.inr (Or.inr h)),fun k hk => HW.out.ne k (by
  rcases hk with ⟨h0,_⟩ | h | h
  · exact absurd h0 (Nat.lt_irrefl 0)
  · exact Or.inr (Or.inl h)
  · exact Or.inr (Or.inr h)),fun k hk => HW.out.ty k (by
  rcases hk with ⟨h0,_⟩ | h | h
  · exact absurd h0 (Nat.lt_irrefl 0)
  · exact Or.inr (Or.inl h)
  · exact Or.inr (Or.inr h))⟩
 clear HW
 clear c0 c1 c2 c3 c4 u0 u1 u2 u3 u4 u5 u6 f0 f1 f2 f3 f4 f5 f6
 obtain ⟨c0,c1,c2,c3,c4⟩ := box_cells HVx.out.br
 obtain ⟨u0,u1,u2,u3,u4,u5,u6⟩ := u_cells HVx.out.bx
 have fz := fun j => frozen_of_row _ _ j _ _ HVx.out.bx
 have f0 := fz 0
 have f1 := fz 1
 have f2 := fz 2
 have f3 := fz 3
 have f4 := fz 4
 have f5 := fz 5
 have f6 := fz 6
 clear fz
 have HE := Lib.hid (ch_end HVx.out HP1.out _ rfl)
 have HC9 := Lib.hid (ucs_size ⟨N,on,false,none,0,0,mm,qk,nk,ck,qc,nc,cc,{ d with np := false,hs := [] }⟩)
 have HO9 := Lib.hid (user_one (N) (on) (false) (none) (qk) (qc) (0) (0) (nk) (ck) (nc) (cc) (mm))
 simp only [ucs] at HC9
 go_wp2_with (with_reducible refine wpList_store_row rfl 26 (.tmp 8) (.tmp 106) rfl (w.heap.size + 2) #[.string N,.bool on,.bool false,.slice none 0 0,.int .u64 mm,.slice qk nk ck,.slice qc nc cc] rfl rfl 26 _ HVx.out.bz HC9.out rfl HO9.out ?_)
 exact bodyPost_ret (results_cell_slot rfl _ _ (w.heap.size + 2) 26 #[.string N,.bool on,.bool false,.slice none 0 0,.int .u64 mm,.slice qk nk ck,.slice qc nc cc] (0,0) _ (.bool true) rfl (setRow_heap _ (w.heap.size + 2) _ _ _ _ HVx.out.bz) Tryz.underlying26 rfl HC9.out rfl) rfl HE.out
set_option maxHeartbeats 4000000 in
theorem ch_8 (w0 w : World) (p : UP) (m : Nat) (T : ByteArray) (a b : Bool) (sq : Option Addr) (sn sc : Nat) (n : Int) (h : UO w0 w p) (hm : m < 18446744073709551616) (hf : p.nh ≤ 64 ∧ p.nk ≤ 64 ∧ p.nc ≤ 64) :
  ChG w0 w p 8 T a b (m : Int) sq sn sc n (some (setU p.d ⟨8,T.data.toList,a,b,m⟩ [])) := by
 have HB := Lib.hid (CB.new (w := w) h.bl (ownF p) (ucs p) #[.int .u8 8,.string T,.bool a,.bool b,.int .u64 (m : Int)])
 have hb3 := below_three w (.cells (ucs p) 26) (.cells #[.int .u8 8,.string T,.bool a,.bool b,.int .u64 (m : Int)] 29) (.cells ucs0 26)
 have HP := Lib.hid (CP.of h hb3)
 have HU := Lib.hid (h.keep hb3)
 have HLt := Lib.hid (fun k hk => (h.at_ k hk).2)
 have HEm := Lib.hid (And.intro h.i.em h.i.mb)
 unfold ChG
 obtain ⟨N,on,np,qh,nh,ch,mm,qk,nk,ck,qc,nc,cc,d⟩ := p
 obtain ⟨hf1,hf2,hf3⟩ := hf
 simp only [ucs,ucs0] at HB HP HU HEm hf1 hf2 hf3
 clear h hb3
 show Calls Tryz.prog 24 #[.agg #[.string N,.bool on,.bool np,.slice qh nh ch,.int .u64 mm,.slice qk nk ck,.slice qc nc cc],.agg #[.int .u8 8,.string T,.bool a,.bool b,.int .u64 (m : Int)],.slice sq sn sc,.int .i64 n] w _
 go_enter Tryz.func24,Tryz.ntmps24
 go_upto_region 1 with fail
 generalize ((w.alloc _).alloc _).alloc _ = w1 at HB HP HU ⊢
 obtain ⟨c0,c1,c2,c3,c4⟩ := box_cells HB.out.br
 obtain ⟨u0,u1,u2,u3,u4,u5,u6⟩ := u_cells HB.out.bx
 have fz := fun j => frozen_of_row _ _ j _ _ HB.out.bx
 have f0 := fz 0
 have f1 := fz 1
 have f2 := fz 2
 have f3 := fz 3
 have f4 := fz 4
 have f5 := fz 5
 have f6 := fz 6
 clear fz
 have HV := Lib.hid (show bits .or .u64 mm (m : Int) = ((d.cmds ||| m : Nat) : Int) ∧ (d.cmds ||| m) < 18446744073709551616 by rw [HEm.out.1]; exact or_nat _ _ HEm.out.2 hm)
 have HB1 := Lib.hid (HB.out.put 4 (.int .u64 (bits .or .u64 mm (m : Int))))
 have HP10 := Lib.hid (HP.out.put 4 (.int .u64 (bits .or .u64 mm (m : Int))))
 have HB1x : Hid (CB w0 w _ #[.string N,.bool on,.bool np,.slice qh nh ch,.int .u64 (bits .or .u64 mm (m : Int)),.slice qk nk ck,.slice qc nc cc] _ _) := HB1
 clear HB1
 have HB1 := HB1x
 clear HB1x HB HP
 go_upto_region 31 with fail
 generalize World.setCell _ _ _ = v1 at HB1 HP10 ⊢
 have HP1 : Hid (CP w0 w ⟨N,on,np,qh,nh,ch,(bits .or .u64 mm (m : Int)),qk,nk,ck,qc,nc,cc,{ d with cmds := d.cmds ||| m }⟩ v1) := Lib.hid ⟨{ HP10.out.ip with em := HV.out.1,mb := HV.out.2 },fun k hk => HP10.out.ge k hk,fun k hk => HP10.out.ne k hk,fun k hk => HP10.out.ty k hk⟩
 clear HP10
 clear c0 c1 c2 c3 c4 u0 u1 u2 u3 u4 u5 u6 f0 f1 f2 f3 f4 f5 f6
 obtain ⟨c0,c1,c2,c3,c4⟩ := box_cells HB1.out.br
 obtain ⟨u0,u1,u2,u3,u4,u5,u6⟩ := u_cells HB1.out.bx
 have fz := fun j => frozen_of_row _ _ j _ _ HB1.out.bx
 have f0 := fz 0
 have f1 := fz 1
 have f2 := fz 2
 have f3 := fz 3
 have f4 := fz 4
 have f5 := fz 5
 have f6 := fz 6
 clear fz
 generalize bits .or .u64 mm (m : Int) = V at HB1 HP1 u4 HV ⊢
 have HE := Lib.hid (ch_end HB1.out HP1.out _ rfl)
 have HC9 := Lib.hid (ucs_size ⟨N,on,np,qh,nh,ch,V,qk,nk,ck,qc,nc,cc,{ d with cmds := d.cmds ||| m }⟩)
 have HO9 := Lib.hid (user_one (N) (on) (np) (qh) (qk) (qc) (nh) (ch) (nk) (ck) (nc) (cc) (V))
 simp only [ucs] at HC9
 go_wp2_with (with_reducible refine wpList_store_row rfl 26 (.tmp 8) (.tmp 106) rfl (w.heap.size + 2) #[.string N,.bool on,.bool np,.slice qh nh ch,.int .u64 V,.slice qk nk ck,.slice qc nc cc] rfl rfl 26 _ HB1.out.bz HC9.out rfl HO9.out ?_)
 exact bodyPost_ret (results_cell_slot rfl _ _ (w.heap.size + 2) 26 #[.string N,.bool on,.bool np,.slice qh nh ch,.int .u64 V,.slice qk nk ck,.slice qc nc cc] (0,0) _ (.bool true) rfl (setRow_heap _ (w.heap.size + 2) _ _ _ _ HB1.out.bz) Tryz.underlying26 rfl HC9.out rfl) rfl HE.out
set_option maxHeartbeats 4000000 in
theorem ch_9 (w0 w : World) (p : UP) (m : Nat) (T : ByteArray) (a b : Bool) (sq : Option Addr) (sn sc : Nat) (n : Int) (h : UO w0 w p) (hm : m < 18446744073709551616) (hf : p.nh ≤ 64 ∧ p.nk ≤ 64 ∧ p.nc ≤ 64) :
  ChG w0 w p 9 T a b (m : Int) sq sn sc n (some (setU p.d ⟨9,T.data.toList,a,b,m⟩ [])) := by
 have HB := Lib.hid (CB.new (w := w) h.bl (ownF p) (ucs p) #[.int .u8 9,.string T,.bool a,.bool b,.int .u64 (m : Int)])
 have hb3 := below_three w (.cells (ucs p) 26) (.cells #[.int .u8 9,.string T,.bool a,.bool b,.int .u64 (m : Int)] 29) (.cells ucs0 26)
 have HP := Lib.hid (CP.of h hb3)
 have HU := Lib.hid (h.keep hb3)
 have HLt := Lib.hid (fun k hk => (h.at_ k hk).2)
 have HEm := Lib.hid (And.intro h.i.em h.i.mb)
 unfold ChG
 obtain ⟨N,on,np,qh,nh,ch,mm,qk,nk,ck,qc,nc,cc,d⟩ := p
 obtain ⟨hf1,hf2,hf3⟩ := hf
 simp only [ucs,ucs0] at HB HP HU HEm hf1 hf2 hf3
 clear h hb3
 show Calls Tryz.prog 24 #[.agg #[.string N,.bool on,.bool np,.slice qh nh ch,.int .u64 mm,.slice qk nk ck,.slice qc nc cc],.agg #[.int .u8 9,.string T,.bool a,.bool b,.int .u64 (m : Int)],.slice sq sn sc,.int .i64 n] w _
 go_enter Tryz.func24,Tryz.ntmps24
 go_upto_region 1 with fail
 generalize ((w.alloc _).alloc _).alloc _ = w1 at HB HP HU ⊢
 obtain ⟨c0,c1,c2,c3,c4⟩ := box_cells HB.out.br
 obtain ⟨u0,u1,u2,u3,u4,u5,u6⟩ := u_cells HB.out.bx
 have fz := fun j => frozen_of_row _ _ j _ _ HB.out.bx
 have f0 := fz 0
 have f1 := fz 1
 have f2 := fz 2
 have f3 := fz 3
 have f4 := fz 4
 have f5 := fz 5
 have f6 := fz 6
 clear fz
 have HV := Lib.hid (show bits .andNot .u64 mm (m : Int) = ((d.cmds ^^^ (d.cmds &&& m) : Nat) : Int) ∧ (d.cmds ^^^ (d.cmds &&& m)) < 18446744073709551616 by rw [HEm.out.1]; exact andNot_nat _ _ HEm.out.2 hm)
 have HB1 := Lib.hid (HB.out.put 4 (.int .u64 (bits .andNot .u64 mm (m : Int))))
 have HP10 := Lib.hid (HP.out.put 4 (.int .u64 (bits .andNot .u64 mm (m : Int))))
 have HB1x : Hid (CB w0 w _ #[.string N,.bool on,.bool np,.slice qh nh ch,.int .u64 (bits .andNot .u64 mm (m : Int)),.slice qk nk ck,.slice qc nc cc] _ _) := HB1
 clear HB1
 have HB1 := HB1x
 clear HB1x HB HP
 go_upto_region 31 with fail
 generalize World.setCell _ _ _ = v1 at HB1 HP10 ⊢
 have HP1 : Hid (CP w0 w ⟨N,on,np,qh,nh,ch,(bits .andNot .u64 mm (m : Int)),qk,nk,ck,qc,nc,cc,{ d with cmds := d.cmds ^^^ (d.cmds &&& m) }⟩ v1) := Lib.hid ⟨{ HP10.out.ip with em := HV.out.1,mb := HV.out.2 },fun k hk => HP10.out.ge k hk,fun k hk => HP10.out.ne k hk,fun k hk => HP10.out.ty k hk⟩
 clear HP10
 clear c0 c1 c2 c3 c4 u0 u1 u2 u3 u4 u5 u6 f0 f1 f2 f3 f4 f5 f6
 obtain ⟨c0,c1,c2,c3,c4⟩ := box_cells HB1.out.br
 obtain ⟨u0,u1,u2,u3,u4,u5,u6⟩ := u_cells HB1.out.bx
 have fz := fun j => frozen_of_row _ _ j _ _ HB1.out.bx
 have f0 := fz 0
 have f1 := fz 1
 have f2 := fz 2
 have f3 := fz 3
 have f4 := fz 4
 have f5 := fz 5
 have f6 := fz 6
 clear fz
 generalize bits .andNot .u64 mm (m : Int) = V at HB1 HP1 u4 HV ⊢
 have HE := Lib.hid (ch_end HB1.out HP1.out _ rfl)
 have HC9 := Lib.hid (ucs_size ⟨N,on,np,qh,nh,ch,V,qk,nk,ck,qc,nc,cc,{ d with cmds := d.cmds ^^^ (d.cmds &&& m) }⟩)
 have HO9 := Lib.hid (user_one (N) (on) (np) (qh) (qk) (qc) (nh) (ch) (nk) (ck) (nc) (cc) (V))
 simp only [ucs] at HC9
 go_wp2_with (with_reducible refine wpList_store_row rfl 26 (.tmp 8) (.tmp 106) rfl (w.heap.size + 2) #[.string N,.bool on,.bool np,.slice qh nh ch,.int .u64 V,.slice qk nk ck,.slice qc nc cc] rfl rfl 26 _ HB1.out.bz HC9.out rfl HO9.out ?_)
 exact bodyPost_ret (results_cell_slot rfl _ _ (w.heap.size + 2) 26 #[.string N,.bool on,.bool np,.slice qh nh ch,.int .u64 V,.slice qk nk ck,.slice qc nc cc] (0,0) _ (.bool true) rfl (setRow_heap _ (w.heap.size + 2) _ _ _ _ HB1.out.bz) Tryz.underlying26 rfl HC9.out rfl) rfl HE.out
set_option maxHeartbeats 4000000 in
theorem ch_11 (w0 w : World) (p : UP) (m : Nat) (T : ByteArray) (a b : Bool) (sq : Option Addr) (sn sc : Nat) (n : Int) (h : UO w0 w p) (hm : m < 18446744073709551616) (hf : p.nh ≤ 64 ∧ p.nk ≤ 64 ∧ p.nc ≤ 64) :
  ChG w0 w p 11 T a b (m : Int) sq sn sc n (some (setU p.d ⟨11,T.data.toList,a,b,m⟩ [])) := by
 have HB := Lib.hid (CB.new (w := w) h.bl (ownF p) (ucs p) #[.int .u8 11,.string T,.bool a,.bool b,.int .u64 (m : Int)])
 have hb3 := below_three w (.cells (ucs p) 26) (.cells #[.int .u8 11,.string T,.bool a,.bool b,.int .u64 (m : Int)] 29) (.cells ucs0 26)
 have HP := Lib.hid (CP.of h hb3)
 have HU := Lib.hid (h.keep hb3)
 have HLt := Lib.hid (fun k hk => (h.at_ k hk).2)
 have HEm := Lib.hid (And.intro h.i.em h.i.mb)
 unfold ChG
 obtain ⟨N,on,np,qh,nh,ch,mm,qk,nk,ck,qc,nc,cc,d⟩ := p
 obtain ⟨hf1,hf2,hf3⟩ := hf
 simp only [ucs,ucs0] at HB HP HU HEm hf1 hf2 hf3
 clear h hb3
 show Calls Tryz.prog 24 #[.agg #[.string N,.bool on,.bool np,.slice qh nh ch,.int .u64 mm,.slice qk nk ck,.slice qc nc cc],.agg #[.int .u8 11,.string T,.bool a,.bool b,.int .u64 (m : Int)],.slice sq sn sc,.int .i64 n] w _
 go_enter Tryz.func24,Tryz.ntmps24
 go_upto_region 1 with fail
 generalize ((w.alloc _).alloc _).alloc _ = w1 at HB HP HU ⊢
 obtain ⟨c0,c1,c2,c3,c4⟩ := box_cells HB.out.br
 obtain ⟨u0,u1,u2,u3,u4,u5,u6⟩ := u_cells HB.out.bx
 have fz := fun j => frozen_of_row _ _ j _ _ HB.out.bx
 have f0 := fz 0
 have f1 := fz 1
 have f2 := fz 2
 have f3 := fz 3
 have f4 := fz 4
 have f5 := fz 5
 have f6 := fz 6
 clear fz
 have HB1 := Lib.hid (HB.out.put 5 (.slice none 0 0))
 have HP10 := Lib.hid (HP.out.put 5 (.slice none 0 0))
 have HB1x : Hid (CB w0 w _ #[.string N,.bool on,.bool np,.slice qh nh ch,.int .u64 mm,.slice none 0 0,.slice qc nc cc] _ _) := HB1
 clear HB1
 have HB1 := HB1x
 clear HB1x HB HP
 go_upto_region 31 with fail
 generalize World.setCell _ _ _ = v1 at HB1 HP10 ⊢
 have HP1 : Hid (CP w0 w ⟨N,on,np,qh,nh,ch,mm,none,0,0,qc,nc,cc,{ d with ks := [] }⟩ v1) := Lib.hid ⟨{ HP10.out.ip with k := RowIn.nil _ _ },fun k hk => HP10.out.ge k (by
  rcases hk with h | ⟨h0,_⟩ | h
  · exact Or.inl h
  · exact absurd h0 (Nat.lt_irrefl 0)
  · exact Or.inr (Or.inr h)),fun k hk => HP10.out.ne k (by
  rcases hk with h | ⟨h0,_⟩ | h
  · exact Or.inl h
  · exact absurd h0 (Nat.lt_irrefl 0)
  · exact Or.inr (Or.inr h)),fun k hk => HP10.out.ty k (by
  rcases hk with h | ⟨h0,_⟩ | h
  · exact Or.inl h
  · exact absurd h0 (Nat.lt_irrefl 0)
  · exact Or.inr (Or.inr h))⟩
 clear HP10
 clear c0 c1 c2 c3 c4 u0 u1 u2 u3 u4 u5 u6 f0 f1 f2 f3 f4 f5 f6
 obtain ⟨c0,c1,c2,c3,c4⟩ := box_cells HB1.out.br
 obtain ⟨u0,u1,u2,u3,u4,u5,u6⟩ := u_cells HB1.out.bx
 have fz := fun j => frozen_of_row _ _ j _ _ HB1.out.bx
 have f0 := fz 0
 have f1 := fz 1
 have f2 := fz 2
 have f3 := fz 3
 have f4 := fz 4
 have f5 := fz 5
 have f6 := fz 6
 clear fz
 have HE := Lib.hid (ch_end HB1.out HP1.out _ rfl)
 have HC9 := Lib.hid (ucs_size ⟨N,on,np,qh,nh,ch,mm,none,0,0,qc,nc,cc,{ d with ks := [] }⟩)
 have HO9 := Lib.hid (user_one (N) (on) (np) (qh) (none) (qc) (nh) (ch) (0) (0) (nc) (cc) (mm))
 simp only [ucs] at HC9
 go_wp2_with (with_reducible refine wpList_store_row rfl 26 (.tmp 8) (.tmp 106) rfl (w.heap.size + 2) #[.string N,.bool on,.bool np,.slice qh nh ch,.int .u64 mm,.slice none 0 0,.slice qc nc cc] rfl rfl 26 _ HB1.out.bz HC9.out rfl HO9.out ?_)
 exact bodyPost_ret (results_cell_slot rfl _ _ (w.heap.size + 2) 26 #[.string N,.bool on,.bool np,.slice qh nh ch,.int .u64 mm,.slice none 0 0,.slice qc nc cc] (0,0) _ (.bool true) rfl (setRow_heap _ (w.heap.size + 2) _ _ _ _ HB1.out.bz) Tryz.underlying26 rfl HC9.out rfl) rfl HE.out
set_option maxHeartbeats 4000000 in
theorem ch_13 (w0 w : World) (p : UP) (m : Nat) (T : ByteArray) (a b : Bool) (sq : Option Addr) (sn sc : Nat) (n : Int) (h : UO w0 w p) (hm : m < 18446744073709551616) (hf : p.nh ≤ 64 ∧ p.nk ≤ 64 ∧ p.nc ≤ 64) :
  ChG w0 w p 13 T a b (m : Int) sq sn sc n (some (setU p.d ⟨13,T.data.toList,a,b,m⟩ [])) := by
 have HB := Lib.hid (CB.new (w := w) h.bl (ownF p) (ucs p) #[.int .u8 13,.string T,.bool a,.bool b,.int .u64 (m : Int)])
 have hb3 := below_three w (.cells (ucs p) 26) (.cells #[.int .u8 13,.string T,.bool a,.bool b,.int .u64 (m : Int)] 29) (.cells ucs0 26)
 have HP := Lib.hid (CP.of h hb3)
 have HU := Lib.hid (h.keep hb3)
 have HLt := Lib.hid (fun k hk => (h.at_ k hk).2)
 have HEm := Lib.hid (And.intro h.i.em h.i.mb)
 unfold ChG
 obtain ⟨N,on,np,qh,nh,ch,mm,qk,nk,ck,qc,nc,cc,d⟩ := p
 obtain ⟨hf1,hf2,hf3⟩ := hf
 simp only [ucs,ucs0] at HB HP HU HEm hf1 hf2 hf3
 clear h hb3
 show Calls Tryz.prog 24 #[.agg #[.string N,.bool on,.bool np,.slice qh nh ch,.int .u64 mm,.slice qk nk ck,.slice qc nc cc],.agg #[.int .u8 13,.string T,.bool a,.bool b,.int .u64 (m : Int)],.slice sq sn sc,.int .i64 n] w _
 go_enter Tryz.func24,Tryz.ntmps24
 go_upto_region 1 with fail
 generalize ((w.alloc _).alloc _).alloc _ = w1 at HB HP HU ⊢
 obtain ⟨c0,c1,c2,c3,c4⟩ := box_cells HB.out.br
 obtain ⟨u0,u1,u2,u3,u4,u5,u6⟩ := u_cells HB.out.bx
 have fz := fun j => frozen_of_row _ _ j _ _ HB.out.bx
 have f0 := fz 0
 have f1 := fz 1
 have f2 := fz 2
 have f3 := fz 3
 have f4 := fz 4
 have f5 := fz 5
 have f6 := fz 6
 clear fz
 have HB1 := Lib.hid (HB.out.put 6 (.slice none 0 0))
 have HP10 := Lib.hid (HP.out.put 6 (.slice none 0 0))
 have HB1x : Hid (CB w0 w _ #[.string N,.bool on,.bool np,.slice qh nh ch,.int .u64 mm,.slice qk nk ck,.slice none 0 0] _ _) := HB1
 clear HB1
 have HB1 := HB1x
 clear HB1x HB HP
 go_upto_region 31 with fail
 generalize World.setCell _ _ _ = v1 at HB1 HP10 ⊢
 have HP1 : Hid (CP w0 w ⟨N,on,np,qh,nh,ch,mm,qk,nk,ck,none,0,0,{ d with cs := [] }⟩ v1) := Lib.hid ⟨{ HP10.out.ip with c := RowIn.nil _ _ },fun k hk => HP10.out.ge k (by
  rcases hk with h | h | ⟨h0,_⟩
  · exact Or.inl h
  · exact Or.inr (Or.inl h)
  · exact absurd h0 (Nat.lt_irrefl 0)),fun k hk => HP10.out.ne k (by
  rcases hk with h | h | ⟨h0,_⟩
  · exact Or.inl h
  · exact Or.inr (Or.inl h)
  · exact absurd h0 (Nat.lt_irrefl 0)),fun k hk => HP10.out.ty k (by
  rcases hk with h | h | ⟨h0,_⟩
  · exact Or.inl h
  · exact Or.inr (Or.inl h)
  · exact absurd h0 (Nat.lt_irrefl 0))⟩
 clear HP10
 clear c0 c1 c2 c3 c4 u0 u1 u2 u3 u4 u5 u6 f0 f1 f2 f3 f4 f5 f6
 obtain ⟨c0,c1,c2,c3,c4⟩ := box_cells HB1.out.br
 obtain ⟨u0,u1,u2,u3,u4,u5,u6⟩ := u_cells HB1.out.bx
 have fz := fun j => frozen_of_row _ _ j _ _ HB1.out.bx
 have f0 := fz 0
 have f1 := fz 1
 have f2 := fz 2
 have f3 := fz 3
 have f4 := fz 4
 have f5 := fz 5
 have f6 := fz 6
 clear fz
 have HE := Lib.hid (ch_end HB1.out HP1.out _ rfl)
 have HC9 := Lib.hid (ucs_size ⟨N,on,np,qh,nh,ch,mm,qk,nk,ck,none,0,0,{ d with cs := [] }⟩)
 have HO9 := Lib.hid (user_one (N) (on) (np) (qh) (qk) (none) (nh) (ch) (nk) (ck) (0) (0) (mm))
 simp only [ucs] at HC9
 go_wp2_with (with_reducible refine wpList_store_row rfl 26 (.tmp 8) (.tmp 106) rfl (w.heap.size + 2) #[.string N,.bool on,.bool np,.slice qh nh ch,.int .u64 mm,.slice qk nk ck,.slice none 0 0] rfl rfl 26 _ HB1.out.bz HC9.out rfl HO9.out ?_)
 exact bodyPost_ret (results_cell_slot rfl _ _ (w.heap.size + 2) 26 #[.string N,.bool on,.bool np,.slice qh nh ch,.int .u64 mm,.slice qk nk ck,.slice none 0 0] (0,0) _ (.bool true) rfl (setRow_heap _ (w.heap.size + 2) _ _ _ _ HB1.out.bz) Tryz.underlying26 rfl HC9.out rfl) rfl HE.out
end Go.Proofs.YtpoinibckmbfcaaGreatDoor.UserM
