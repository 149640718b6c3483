/-
  Packed by program.
-/
import Derived.BigRegion
import Derived.Test.YtpoinibckmbfcaaGreatDoorPk17
import Derived.Test.YtpoinibckmbfcaaGreatDoorPk10
namespace Go.Proofs.YtpoinibckmbfcaaGreatDoor.RefUser
open Go.RowKit Kit StrT RowG RuleT UserT UserR TableMath Low ValT
open Go.Sort (grow)
open RefRule (results_cell_slot)
set_option linter.unusedVariables false
set_option maxRecDepth 100000
theorem or_nat (a b : Nat) (ha : a < 18446744073709551616) (hb : b < 18446744073709551616) : bits .or .u64 (a : Int) (b : Int) = ((a ||| b : Nat) : Int) ∧ a ||| b < 18446744073709551616 :=
 ⟨u64_or_nat a b ha hb,Nat.or_lt_two_pow (n := 64) ha hb⟩
theorem andNot_nat (a b : Nat) (ha : a < 18446744073709551616) (hb : b < 18446744073709551616) : bits .andNot .u64 (a : Int) (b : Int) = ((a ^^^ (a &&& b) : Nat) : Int) ∧ a ^^^ (a &&& b) < 18446744073709551616 := by
 refine ⟨?_,Nat.xor_lt_two_pow (n := 64) ha (Nat.lt_of_le_of_lt Nat.and_le_left ha)⟩
 rw [u64_andNot_nat a b ha hb]
 congr 1
 apply Nat.eq_of_testBit_eq
 intro k
 have e : (18446744073709551615 - b) = 2 ^ 64 - (b + 1) := by omega
 rw [e,Nat.testBit_and,Nat.testBit_two_pow_sub_succ hb,Nat.testBit_xor,Nat.testBit_and]
 by_cases hk : k < 64
 · simp only [hk,decide_true,Bool.true_and]
   cases a.testBit k <;> cases b.testBit k <;> rfl
 · have : a.testBit k = false := Nat.testBit_lt_two_pow (Nat.lt_of_lt_of_le ha (show (2 : Nat) ^ 64 ≤ 2 ^ k from Nat.pow_le_pow_right (by decide) (by omega)))
   simp [this]
def ucs (p : UP) : Array Value := #[.string p.N,.bool p.on,.bool p.np,.slice p.qh p.nh p.ch,.int .u64 p.m,.slice p.qk p.nk p.ck,.slice p.qc p.nc p.cc]
def ucs0 : Array Value := #[.string ⟨#[]⟩,.bool false,.bool false,.slice none 0 0,.int .u64 0,.slice none 0 0,.slice none 0 0]
theorem ucs_size (p : UP) : (Tryz.prog.info? 26).map (·.size) = some (ucs p).size := user_size
structure AB (w : World) (p : UP) (r : Array Value) (wr : World) : Prop where
 bel : Below w.heap.size w wr
 bx : wr.heap[w.heap.size]? = some (.cells (ucs p) 26 (0,0))
 br : wr.heap[w.heap.size + 1]? = some (.cells r 29 (0,0))
 bz : wr.heap[w.heap.size + 2]? = some (.cells ucs0 26 (0,0))
 ip : UIn wr p
 lp : ∀ k,p.at_ k → k < w.heap.size
theorem AB.lt {w wr : World} {p : UP} {r : Array Value} (h : AB w p r wr) : w.heap.size + 2 < wr.heap.size := (Array.getElem?_eq_some_iff.1 h.bz).1
theorem AB.keep {w wr w' : World} {p : UP} {r : Array Value} (h : AB w p r wr) (hb : Below wr.heap.size wr w') : AB w p r w' := by
 have hl := h.lt
 exact ⟨h.bel.trans (hb.mono h.bel.size),by rw [hb.block _ (by omega)]; exact h.bx,by rw [hb.block _ (by omega)]; exact h.br,by rw [hb.block _ hl]; exact h.bz,h.ip.keep hb,h.lp⟩
theorem AB.new {w : World} {p : UP} (h : UIn w p) (r : Array Value) : AB w p r (((w.alloc (.cells (ucs p) 26)).alloc (.cells r 29)).alloc (.cells ucs0 26)) := by
 have b1 := Kit.below1 w (.cells (ucs p) 26)
 have b2 := b1.alloc b1.size (.cells r 29)
 have b3 := b2.alloc b2.size (.cells ucs0 26)
 refine ⟨b3,?_,?_,?_,h.keep b3,h.lt⟩
 · rw [(Kit.below1 _ _).block _ (by simp; omega),(Kit.below1 _ _).block _ (by simp)]
   exact heap_alloc_last w _
 · rw [(Kit.below1 _ _).block _ (by simp)]
   have := heap_alloc_last (w.alloc (.cells (ucs p) 26)) (.cells r 29)
   simpa using this
 · have := heap_alloc_last ((w.alloc (.cells (ucs p) 26)).alloc (.cells r 29)) (.cells ucs0 26)
   simpa using this
theorem UIn.row {w : World} {p : UP} (h : UIn w p) {g : Nat} (cs : Array Value) (hg : ∀ k,p.at_ k → k ≠ g) : UIn (w.setRow g cs) p :=
 h.same (by simp) (fun k hk => setRow_other _ _ _ _ (hg k hk))
theorem AB.fin {w wr : World} {p : UP} {r : Array Value} (h : AB w p r wr) : AnsUB p.at_ p.d false w (.returned (.tuple #[p.agg,.bool false])) (wr.setRow (w.heap.size + 2) (ucs p)) :=
 ⟨p,rfl,UIn.row h.ip _ (fun k hk => by have := h.lp k hk; omega),rfl,fun k hk => Or.inl hk,below_setRow h.bel (by omega) _⟩
structure AO (w : World) (p : UP) (r : Array Value) (g : Nat) (o : UP) (wr : World) : Prop where
 ab : AB w p r wr
 gt : w.heap.size + 2 < g
 bo : wr.heap[g]? = some (.cells (ucs o) 26 (0,0))
 io : UIn wr o
 at_ : ∀ k,o.at_ k → p.at_ k ∨ g < k
theorem AO.lt {w wr : World} {p o : UP} {r : Array Value} {g : Nat} (h : AO w p r g o wr) : g < wr.heap.size := (Array.getElem?_eq_some_iff.1 h.bo).1
theorem AO.keep {w wr w' : World} {p o : UP} {r : Array Value} {g : Nat} (h : AO w p r g o wr) (hb : Below wr.heap.size wr w') : AO w p r g o w' :=
 ⟨h.ab.keep hb,h.gt,by rw [hb.block _ h.lt]; exact h.bo,h.io.keep hb,h.at_⟩
theorem AO.new {w wr : World} {p : UP} {r : Array Value} (h : AB w p r wr) : AO w p r wr.heap.size p (wr.alloc (.cells (ucs p) 26)) :=
 ⟨h.keep (Kit.below1 _ _),h.lt,heap_alloc_last wr _,h.ip.keep (Kit.below1 _ _),fun k hk => Or.inl hk⟩
theorem AO.ne {w wr : World} {p o : UP} {r : Array Value} {g : Nat} (h : AO w p r g o wr) {o' : UP} (hat : ∀ k,o'.at_ k → p.at_ k ∨ g < k) (k : Nat) (hk : o'.at_ k) : k ≠ g := by
 rcases hat k hk with h1 | h1
 · have := h.ab.lp k h1
   have := h.gt
   omega
 · omega
theorem AO.put {w wr : World} {p o : UP} {r : Array Value} {g : Nat} (h : AO w p r g o wr) (o' : UP) (j : Nat) (v : Value) (hc : ucs o' = (ucs o).setIfInBounds j v) (hi : UIn wr o') (hat : ∀ k,o'.at_ k → p.at_ k ∨ g < k) : AO w p r g o' (wr.setCell ⟨g,j,none⟩ v) := by
 have hgt := h.gt
 have ho : ∀ k,k ≠ g → (wr.setCell ⟨g,j,none⟩ v).heap[k]? = wr.heap[k]? := fun k hk => heap_setCell_other _ _ _ _ hk
 refine ⟨⟨h.ab.bel.setCell (p := ⟨g,j,none⟩) (by show _ ≤ g; omega) v,by rw [ho _ (by omega)]; exact h.ab.bx,by rw [ho _ (by omega)]; exact h.ab.br,by rw [ho _ (by omega)]; exact h.ab.bz,h.ab.ip.same (by simp) (fun k hk => ho k (by have := h.ab.lp k hk; omega)),h.ab.lp⟩,hgt,?_,hi.same (by simp) (fun k hk => ho k (h.ne hat k hk)),hat⟩
 rw [hc]
 exact heap_setCell_same _ _ j _ _ v h.bo
theorem AO.row {w wr : World} {p o : UP} {r : Array Value} {g : Nat} (h : AO w p r g o wr) (o' : UP) (hi : UIn wr o') (hat : ∀ k,o'.at_ k → p.at_ k ∨ g < k) : AO w p r g o' (wr.setRow g (ucs o')) := by
 have hgt := h.gt
 have ho : ∀ k,k ≠ g → (wr.setRow g (ucs o')).heap[k]? = wr.heap[k]? := fun k hk => setRow_other _ _ _ _ hk
 exact ⟨⟨below_setRow h.ab.bel (by omega) _,by rw [ho _ (by omega)]; exact h.ab.bx,by rw [ho _ (by omega)]; exact h.ab.br,by rw [ho _ (by omega)]; exact h.ab.bz,h.ab.ip.same (by simp) (fun k hk => ho k (by have := h.ab.lp k hk; omega)),h.ab.lp⟩,hgt,setRow_heap _ _ _ _ _ _ h.bo,hi.same (by simp) (fun k hk => ho k (h.ne hat k hk)),hat⟩
theorem AO.fin {w wr : World} {p o : UP} {r : Array Value} {g : Nat} (h : AO w p r g o wr) : AnsUB p.at_ o.d true w (.returned (.tuple #[o.agg,.bool true])) (wr.setRow (w.heap.size + 2) (ucs o)) :=
 ⟨o,rfl,UIn.row h.io _ (fun k hk => by
  have := h.gt
  rcases h.at_ k hk with h1 | h1
  · have := h.ab.lp k h1
    omega
  · omega),rfl,fun k hk => by
  have := h.gt
  rcases h.at_ k hk with h1 | h1
  · exact Or.inl h1
  · exact Or.inr (by omega),below_setRow h.ab.bel (by omega) _⟩
def ApG (p : UP) (k : Int) (T : ByteArray) (a b : Bool) (m : Int) (sq : Option Addr) (sn sc : Nat) (n : Int) (w : World) (o : Option UV) : Prop :=
 Calls Tryz.prog 11 #[p.agg,.agg #[.int .u8 k,.string T,.bool a,.bool b,.int .u64 m],.slice sq sn sc,.int .i64 n] w (AnsUB p.at_ (o.getD p.d) o.isSome w)
theorem few_nums {p : UP} {w : World} (h : UIn w p) (hf : fewB p.d = true) : p.nh ≤ 64 ∧ p.nk ≤ 64 ∧ p.nc ≤ 64 := by
 have := of_decide_eq_true hf
 rw [h.h.l,h.k.l,h.c.l] at this
 exact this
set_option maxHeartbeats 2000000 in
theorem apply_no (p : UP) (k m : Nat) (T : ByteArray) (a b : Bool) (sq : Option Addr) (sn sc : Nat) (n : Int) (w : World) (hU : UIn w p) (hz : T.size ≤ 1048576) (hm : m < 18446744073709551616) (hk : k ≤ 255) (hr : rightR ⟨k,T.data.toList,a,b,m⟩ = false) :
  ApG p (k : Int) T a b (m : Int) sq sn sc n w none := by
 obtain ⟨r,hrc⟩ : ∃ r,r = #[Value.int .u8 (k : Int),.string T,.bool a,.bool b,.int .u64 (m : Int)] := ⟨_,rfl⟩
 have HA := Lib.hid (AB.new hU r)
 have CR := Lib.hid (fun W => right_any k m T a b W hz hm hk)
 unfold RightC at CR
 rw [hr] at CR
 have HCs := Lib.hid (ucs_size p)
 have HOn := Lib.hid (user_one p.N p.on p.np p.qh p.qk p.qc p.nh p.ch p.nk p.ck p.nc p.cc p.m)
 rw [hrc] at HA
 clear hU hz hm hk hr hrc
 unfold ApG
 obtain ⟨N,on,np,qh,nh,ch,mm,qk,nk,ck,qc,nc,cc,d⟩ := p
 simp only [ucs,ucs0] at HA HCs HOn
 show Calls Tryz.prog 11 #[.agg #[.string N,.bool on,.bool np,.slice qh nh ch,.int .u64 mm,.slice qk nk ck,.slice qc nc cc],.agg #[.int .u8 (k : Int),.string T,.bool a,.bool b,.int .u64 (m : Int)],.slice sq sn sc,.int .i64 n] w _
 go_enter Tryz.func11,Tryz.ntmps11
 go_upto_region 1 with fail
 generalize ((w.alloc _).alloc _).alloc _ = w1 at HA ⊢
 obtain ⟨c0,c1,c2,c3,c4⟩ := box_cells HA.out.br
 go_wp2_with fail
 refine (CR.out _).mono ?_
 rintro e w2 ⟨rfl,hb2⟩
 have HA2 := Lib.hid (HA.out.keep hb2)
 clear hb2 HA CR c0 c1 c2 c3 c4
 obtain ⟨u0,u1,u2,u3,u4,u5,u6⟩ := u_cells HA2.out.bx
 go_wp2_with (with_reducible refine wpList_store_row rfl 26 (.tmp 8) (.tmp 19) rfl (w.heap.size + 2) #[.string N,.bool on,.bool np,.slice qh nh ch,.int .u64 mm,.slice qk nk ck,.slice qc nc cc] rfl rfl 26 _ HA2.out.bz HCs.out rfl HOn.out ?_)
 exact bodyPost_ret (results_cell_slot rfl _ _ (w.heap.size + 2) 26 #[.string N,.bool on,.bool np,.slice qh nh ch,.int .u64 mm,.slice qk nk ck,.slice qc nc cc] (0,0) _ (.bool false) rfl (setRow_heap _ (w.heap.size + 2) _ _ _ _ HA2.out.bz) Tryz.underlying26 rfl HCs.out rfl) rfl HA2.out.fin
end Go.Proofs.YtpoinibckmbfcaaGreatDoor.RefUser
namespace Go.Proofs.YtpoinibckmbfcaaGreatDoor.UserR
def UP.vh (p : UP) : Value := .slice p.qh p.nh p.ch
def UP.vk (p : UP) : Value := .slice p.qk p.nk p.ck
def UP.vc (p : UP) : Value := .slice p.qc p.nc p.cc
end Go.Proofs.YtpoinibckmbfcaaGreatDoor.UserR
namespace Go.Proofs.YtpoinibckmbfcaaGreatDoor.UserM
open Go.RowKit Kit StrT RowG RuleT UserT UserR TableMath Low ValT RefUser
open Go.Sort (grow)
set_option linter.unusedVariables false
set_option maxRecDepth 100000
theorem OwnR.same {α : Type} {E : Enc α} {base : Nat} {w w' : World} {v : Value} {L : List α} (h : OwnR E base w v L) (ho : ∀ k,v.ownBlock = some k → w'.heap[k]? = w.heap[k]?) : OwnR E base w' v L := by
 refine ⟨h.1,?_⟩
 rcases h.2 with h1 | ⟨g,cap,cur,e,hg,h2,h3⟩
 · exact Or.inl h1
 · exact Or.inr ⟨g,cap,cur,e,hg,by rw [ho g (by rw [e]; rfl)]; exact h2,h3⟩
theorem OwnR.blt {α : Type} {E : Enc α} {base : Nat} {w : World} {v : Value} {L : List α} (h : OwnR E base w v L) : ∀ k,v.ownBlock = some k → base ≤ k ∧ k < w.heap.size := by
 intro k hk
 rcases h.2 with ⟨e,-⟩ | ⟨g,cap,cur,e,hg,h2,-⟩
 · rw [e] at hk
   cases hk
 · rw [e] at hk
   injection hk with hk
   subst hk
   exact ⟨hg,(Array.getElem?_eq_some_iff.1 h2).1⟩
structure UO (w0 w : World) (p : UP) : Prop where
 bl : Below w0.heap.size w0 w
 i : UIn w p
 h : OwnR strE w0.heap.size w p.vh p.d.hs
 k : OwnR glE w0.heap.size w p.vk p.d.ks
 c : OwnR strE w0.heap.size w p.vc p.d.cs
 hk : ∀ b,p.vh.ownBlock = some b → p.vk.ownBlock ≠ some b
 hc : ∀ b,p.vh.ownBlock = some b → p.vc.ownBlock ≠ some b
 kc : ∀ b,p.vk.ownBlock = some b → p.vc.ownBlock ≠ some b
theorem own_addr {α : Type} {E : Enc α} {base : Nat} {w : World} {q : Option Addr} {n c : Nat} {L : List α} (h : OwnR E base w (.slice q n c) L) : ∀ a,q = some a → (Value.slice q n c).ownBlock = some a.block := by
 intro a ha
 rcases h.2 with ⟨e,-⟩ | ⟨g,cap,cur,e,-⟩
 · injection e with e1
   rw [e1] at ha
   cases ha
 · rw [e]
   injection e with e1
   rw [e1] at ha
   injection ha with ha
   rw [← ha]
   rfl
theorem UO.at_ {w0 w : World} {p : UP} (h : UO w0 w p) : ∀ k,p.at_ k → w0.heap.size ≤ k ∧ k < w.heap.size := by
 rintro k (⟨-,a,e,rfl⟩ | ⟨-,a,e,rfl⟩ | ⟨-,a,e,rfl⟩)
 · exact OwnR.blt h.h _ (own_addr h.h a e)
 · exact OwnR.blt h.k _ (own_addr h.k a e)
 · exact OwnR.blt h.c _ (own_addr h.c a e)
theorem UO.keep {w0 w w' : World} {p : UP} (h : UO w0 w p) (hb : Below w.heap.size w w') : UO w0 w' p :=
 ⟨h.bl.trans (hb.mono h.bl.size),h.i.keep hb,h.h.keep hb,h.k.keep hb,h.c.keep hb,h.hk,h.hc,h.kc⟩
theorem UO.ans {w0 w : World} {p : UP} (h : UO w0 w p) (F : Nat → Prop) (ok : Bool) : AnsUB F p.d ok w0 (.returned (.tuple #[p.agg,.bool ok])) w :=
 ⟨p,rfl,h.i,rfl,fun k hk => Or.inr (h.at_ k hk).1,h.bl⟩
theorem UO.low {w0 w1 w : World} {p : UP} (h : UO w1 w p) (hb : Below w0.heap.size w0 w1) : UO w0 w p :=
 ⟨hb.trans (h.bl.mono hb.size),h.i,h.h.low hb.size,h.k.low hb.size,h.c.low hb.size,h.hk,h.hc,h.kc⟩
theorem UO.row {w0 w : World} {p : UP} (h : UO w0 w p) {g : Nat} (cs : Array Value) (hg : w0.heap.size ≤ g) (hn : ∀ k,p.vh.ownBlock = some k ∨ p.vk.ownBlock = some k ∨ p.vc.ownBlock = some k → k ≠ g) : UO w0 (w.setRow g cs) p :=
 ⟨below_setRow h.bl hg _,UIn.row h.i _ (fun k hk => by
  rcases hk with ⟨-,a,e,rfl⟩ | ⟨-,a,e,rfl⟩ | ⟨-,a,e,rfl⟩
  · exact hn _ (Or.inl (own_addr h.h a e))
  · exact hn _ (Or.inr (Or.inl (own_addr h.k a e)))
  · exact hn _ (Or.inr (Or.inr (own_addr h.c a e)))),OwnR.same h.h (fun k hk => setRow_other _ _ _ _ (hn k (Or.inl hk))),OwnR.same h.k (fun k hk => setRow_other _ _ _ _ (hn k (Or.inr (Or.inl hk)))),OwnR.same h.c (fun k hk => setRow_other _ _ _ _ (hn k (Or.inr (Or.inr hk)))),h.hk,h.hc,h.kc⟩
theorem new_any (N : ByteArray) (w : World) (hg : True) : Calls Tryz.prog 21 #[.string N] w (AnsU (fun _ => False) (newU N.data.toList) w) := by
 have HC := Lib.hid (ucs_size (newP N))
 have HO := Lib.hid (user_one N false false none none none 0 0 0 0 0 0 0)
 have hbz : ∀ W,(Instr.build 26 #[(0,.string N)]).run Tryz.prog W = .ok (.agg #[.string N,.bool false,.bool false,.slice none 0 0,.int .u64 0,.slice none 0 0,.slice none 0 0]) W := fun W => run_build W 26 _ _ (by kernel_rfl)
 go_enter Tryz.func21,Tryz.ntmps21
 go_wp2_with fail
 exact bodyPost_ret (results_cell_row rfl _ _ w.heap.size 26 #[.string N,.bool false,.bool false,.slice none 0 0,.int .u64 0,.slice none 0 0,.slice none 0 0] (0,0) _ rfl (heap_alloc_last w _) Tryz.underlying26 rfl HC.out) rfl ⟨newP N,rfl,newP_in N _,rfl,fun k hk => absurd hk (newP_at N k),Kit.below1 _ _⟩
structure OB (w : World) (p : UP) (W : World) : Prop where
 bl : Below w.heap.size w W
 bx : W.heap[w.heap.size]? = some (.cells (ucs p) 26 (0,0))
 br : W.heap[w.heap.size + 1]? = some (.cells ucs0 26 (0,0))
 ip : UIn W p
theorem OB.lt {w W : World} {p : UP} (h : OB w p W) : w.heap.size + 1 < W.heap.size := (Array.getElem?_eq_some_iff.1 h.br).1
theorem OB.keep {w W W' : World} {p : UP} (h : OB w p W) (hb : Below W.heap.size W W') : OB w p W' := by
 have hl := h.lt
 exact ⟨h.bl.trans (hb.mono h.bl.size),by rw [hb.block _ (by omega)]; exact h.bx,by rw [hb.block _ hl]; exact h.br,h.ip.keep hb⟩
theorem OB.new {w : World} {p : UP} (h : UIn w p) : OB w p ((w.alloc (.cells (ucs p) 26)).alloc (.cells ucs0 26)) := by
 have b1 := Kit.below1 w (.cells (ucs p) 26)
 have b2 := b1.alloc b1.size (.cells ucs0 26)
 refine ⟨b2,?_,?_,h.keep b2⟩
 · rw [(Kit.below1 _ _).block _ (by simp)]
   exact heap_alloc_last w _
 · have := heap_alloc_last (w.alloc (.cells (ucs p) 26)) (.cells ucs0 26)
   simpa using this
def Cop {α : Type} (E : Enc α) (w : World) (p : UP) (L : List α) (n : Nat) (W : World) (e : Ending) (w' : World) : Prop := ∃ q c,e = .returned (.slice q n c) ∧ Hid (OwnR E W.heap.size w' (.slice q n c) L ∧ Below W.heap.size W w') ∧ Hid (OB w p w') ∧ (w'.cell? ⟨w.heap.size,3,none⟩ = some p.vh ∧ w'.cell? ⟨w.heap.size,5,none⟩ = some p.vk ∧ w'.cell? ⟨w.heap.size,6,none⟩ = some p.vc) ∧ (w'.frozen? ⟨w.heap.size,3,none⟩ = false ∧ w'.frozen? ⟨w.heap.size,5,none⟩ = false ∧ w'.frozen? ⟨w.heap.size,6,none⟩ = false)
theorem OB.three {w W : World} {p : UP} (h : OB w p W) : (W.cell? ⟨w.heap.size,3,none⟩ = some p.vh ∧ W.cell? ⟨w.heap.size,5,none⟩ = some p.vk ∧ W.cell? ⟨w.heap.size,6,none⟩ = some p.vc) ∧ (W.frozen? ⟨w.heap.size,3,none⟩ = false ∧ W.frozen? ⟨w.heap.size,5,none⟩ = false ∧ W.frozen? ⟨w.heap.size,6,none⟩ = false) := by
 have hb := h.bx
 simp only [ucs] at hb
 obtain ⟨c0,c1,c2,c3,c4,c5,c6⟩ := u_cells hb
 exact ⟨⟨c3,c5,c6⟩,frozen_of_row _ _ _ _ _ hb,frozen_of_row _ _ _ _ _ hb,frozen_of_row _ _ _ _ _ hb⟩
theorem cop_of {α : Type} {E : Enc α} {w : World} {p : UP} {L : List α} {n : Nat} {W : World} (h : OB w p W) {e : Ending} {w' : World} (hc : ∃ q' c',e = .returned (.slice q' n c') ∧ OwnR E W.heap.size w' (.slice q' n c') L ∧ Below W.heap.size W w') : Cop E w p L n W e w' := by
 obtain ⟨q,c,rfl,ho,hb⟩ := hc
 have h2 := h.keep hb
 exact ⟨q,c,rfl,Lib.hid ⟨ho,hb⟩,Lib.hid h2,h2.three.1,h2.three.2⟩
theorem own_end {w W wA wB wC : World} {p : UP} {qa qb qc : Option Addr} {ca cb cc : Nat} (h0 : OB w p W) (hA : OwnR strE W.heap.size wA (.slice qa p.nh ca) p.d.hs ∧ Below W.heap.size W wA) (hB : OwnR glE wA.heap.size wB (.slice qb p.nk cb) p.d.ks ∧ Below wA.heap.size wA wB) (hC : OwnR strE wB.heap.size wC (.slice qc p.nc cc) p.d.cs ∧ Below wB.heap.size wB wC) (hz : OB w p wC) :
  let p' : UP := ⟨p.N,p.on,p.np,qa,p.nh,ca,p.m,qb,p.nk,cb,qc,p.nc,cc,p.d⟩
  let wD := ((wC.setCell ⟨w.heap.size,3,none⟩ (.slice qa p.nh ca)).setCell ⟨w.heap.size,5,none⟩ (.slice qb p.nk cb)).setCell ⟨w.heap.size,6,none⟩ (.slice qc p.nc cc)
  UO w wD p' ∧ wD.heap[w.heap.size]? = some (.cells (ucs p') 26 (0,0)) ∧ wD.heap[w.heap.size + 1]? = some (.cells ucs0 26 (0,0)) ∧ ∀ k,p'.vh.ownBlock = some k ∨ p'.vk.ownBlock = some k ∨ p'.vc.ownBlock = some k → w.heap.size + 1 < k := by
 intro p' wD
 have hoth : ∀ j,j ≠ w.heap.size → wD.heap[j]? = wC.heap[j]? := fun j hj => by
  show (((wC.setCell ⟨w.heap.size,3,none⟩ (.slice qa p.nh ca)).setCell ⟨w.heap.size,5,none⟩ (.slice qb p.nk cb)).setCell ⟨w.heap.size,6,none⟩ (.slice qc p.nc cc)).heap[j]? = _
  rw [heap_setCell_other _ _ _ _ hj,heap_setCell_other _ _ _ _ hj,heap_setCell_other _ _ _ _ hj]
 have hlt := h0.lt
 have sA := hA.2.size
 have sB := hB.2.size
 have rA := OwnR.blt hA.1
 have rB := OwnR.blt hB.1
 have rC := OwnR.blt hC.1
 have oA : OwnR strE w.heap.size wD p'.vh p'.d.hs := (OwnR.same ((hA.1.keep hB.2).keep hC.2) (fun k hk => hoth k (by have := (rA k hk).1; omega))).low (by omega)
 have oB : OwnR glE w.heap.size wD p'.vk p'.d.ks := (OwnR.same (hB.1.keep hC.2) (fun k hk => hoth k (by have := (rB k hk).1; omega))).low (by omega)
 have oC : OwnR strE w.heap.size wD p'.vc p'.d.cs := (OwnR.same hC.1 (fun k hk => hoth k (by have := (rC k hk).1; omega))).low (by omega)
 have hbD : Below w.heap.size w wD := ((hz.bl.setCell (p := ⟨w.heap.size,3,none⟩) (Nat.le_refl _) _).setCell (p := ⟨w.heap.size,5,none⟩) (Nat.le_refl _) _).setCell (p := ⟨w.heap.size,6,none⟩) (Nat.le_refl _) _
 have hbx : wD.heap[w.heap.size]? = some (.cells (ucs p') 26 (0,0)) := by
  have h1 := heap_setCell_same _ _ 3 _ _ (.slice qa p.nh ca) hz.bx
  have h2 := heap_setCell_same _ _ 5 _ _ (.slice qb p.nk cb) h1
  exact heap_setCell_same _ _ 6 _ _ (.slice qc p.nc cc) h2
 refine ⟨⟨hbD,⟨hz.ip.en,hz.ip.eo,hz.ip.ep,hz.ip.em,hz.ip.mb,own_in oA hz.ip.h.f,own_in oB hz.ip.k.f,own_in oC hz.ip.c.f⟩,oA,oB,oC,fun b h1 h2 => ?_,fun b h1 h2 => ?_,fun b h1 h2 => ?_⟩,hbx,by rw [hoth _ (by omega)]; exact hz.br,fun k hk => ?_⟩
 · have := rA b h1
   have := rB b h2
   omega
 · have := rA b h1
   have := rC b h2
   omega
 · have := rB b h1
   have := rC b h2
   omega
 · rcases hk with hk | hk | hk
   · have := rA k hk
     omega
   · have := rB k hk
     omega
   · have := rC k hk
     omega
set_option maxHeartbeats 8000000 in
theorem own_u (p : UP) (w : World) (hU : UIn w p) : Calls Tryz.prog 23 #[p.agg] w (fun e w' => ∃ p' : UP,e = .returned p'.agg ∧ UO w w' p' ∧ p'.d = p.d) := by
 have HO := Lib.hid (OB.new hU)
 have CH := Lib.hid (fun W (h : Hid (OB w p W)) => (clone_s p.qh p.d.hs p.nh p.ch W h.out.ip.h).mono (R' := Cop strE w p p.d.hs p.nh W) (fun e w' hc => cop_of h.out hc))
 have CK := Lib.hid (fun W (h : Hid (OB w p W)) => (clone_g p.qk p.d.ks p.nk p.ck W h.out.ip.k).mono (R' := Cop glE w p p.d.ks p.nk W) (fun e w' hc => cop_of h.out hc))
 have CC := Lib.hid (fun W (h : Hid (OB w p W)) => (clone_s p.qc p.d.cs p.nc p.cc W h.out.ip.c).mono (R' := Cop strE w p p.d.cs p.nc W) (fun e w' hc => cop_of h.out hc))
 have HE := Lib.hid (fun W wA wB wC qa qb qc ca cb cc h0 hA hB hC hz => @own_end w W wA wB wC p qa qb qc ca cb cc h0 hA hB hC hz)
 have HSz := Lib.hid (fun p' => ucs_size p')
 obtain ⟨N,on,np,qh,nh,ch,mm,qk,nk,ck,qc,nc,cc,d⟩ := p
 simp only [ucs,ucs0,UP.vh,UP.vk,UP.vc] at HO CH CK CC HE HSz
 clear hU
 show Calls Tryz.prog 23 #[.agg #[.string N,.bool on,.bool np,.slice qh nh ch,.int .u64 mm,.slice qk nk ck,.slice qc nc cc]] w _
 go_enter Tryz.func23,Tryz.ntmps23
 go_upto_region 1 with fail
 generalize (w.alloc _).alloc _ = W2 at HO ⊢
 have HOD : Hid (OB w ⟨N,on,np,qh,nh,ch,mm,qk,nk,ck,qc,nc,cc,d⟩ W2.drew) := Lib.hid (HO.out.keep (Below.refl _ _).drew)
 obtain ⟨⟨c3,c5,c6⟩,f3,f5,f6⟩ := HO.out.three
 simp only [UP.vh,UP.vk,UP.vc] at c3 c5 c6
 go_cut [] (fun wx => ∃ p' : UP,p'.d = d ∧ Hid (UO w wx p') ∧ Hid (wx.heap[w.heap.size]? = some (.cells (ucs p') 26 (0,0)) ∧ wx.heap[w.heap.size + 1]? = some (.cells ucs0 26 (0,0)) ∧ ∀ k,p'.vh.ownBlock = some k ∨ p'.vk.ownBlock = some k ∨ p'.vc.ownBlock = some k → w.heap.size + 1 < k))
 case first =>
  go_region_law (first
   | (go_simp; (with_reducible refine (CH.out _ (by assumption)).mono ?_); rintro e wA ⟨qa,ca,rfl,hA,hOA,⟨c3,c5,c6⟩,f3,f5,f6⟩; dsimp only; simp only [UP.vh,UP.vk,UP.vc] at c3 c5 c6)
   | (go_simp; (with_reducible refine (CK.out _ (by assumption)).mono ?_); rintro e wB ⟨qb,cb,rfl,hB,hOB,⟨c3,c5,c6⟩,f3,f5,f6⟩; dsimp only; simp only [UP.vh,UP.vk,UP.vc] at c3 c5 c6)
   | (go_simp; (with_reducible refine (CC.out _ (by assumption)).mono ?_); rintro e wC ⟨qd,cd,rfl,hC,hOC,⟨c3,c5,c6⟩,f3,f5,f6⟩; dsimp only; simp only [UP.vh,UP.vk,UP.vc] at c3 c5 c6))
  all_goals
   have HF := HE.out _ _ _ _ _ _ _ _ _ _ HOD.out hA.out hB.out hC.out hOC.out
   go_wp2_with fail
   go_meet
   exact ⟨_,rfl,Lib.hid HF.1,Lib.hid HF.2⟩
 case rest =>
  obtain ⟨⟨N2,on2,np2,qh2,nh2,ch2,mm2,qk2,nk2,ck2,qc2,nc2,cc2,d2⟩,hd,HU,hx⟩ := hcut
  clear CH CK CC HE HO HOD c3 c5 c6 f3 f5 f6
  have HX := hx.out
  simp only [ucs,ucs0] at HX
  have HD := Lib.hid hd
  obtain ⟨c0,c1,c2,c3,c4,c5,c6⟩ := u_cells HX.1
  have HZ := Lib.hid HX.2.1
  have HN := Lib.hid HX.2.2
  have HCs := Lib.hid (user_cs (.string N2) (.bool on2) (.bool np2) (.slice qh2 nh2 ch2) (.int .u64 mm2) (.slice qk2 nk2 ck2) (.slice qc2 nc2 cc2))
  have HOn := Lib.hid (user_one N2 on2 np2 qh2 qk2 qc2 nh2 ch2 nk2 ck2 nc2 cc2 mm2)
  clear HX hx hd HSz
  go_wp2_with (with_reducible refine wpList_store_row rfl 26 (.tmp 2) (.tmp 15) rfl (w.heap.size + 1) #[.string N2,.bool on2,.bool np2,.slice qh2 nh2 ch2,.int .u64 mm2,.slice qk2 nk2 ck2,.slice qc2 nc2 cc2] rfl rfl 26 _ HZ.out HCs.out rfl HOn.out ?_)
  exact bodyPost_ret (results_cell_row rfl _ _ (w.heap.size + 1) 26 #[.string N2,.bool on2,.bool np2,.slice qh2 nh2 ch2,.int .u64 mm2,.slice qk2 nk2 ck2,.slice qc2 nc2 cc2] (0,0) _ rfl (setRow_heap _ (w.heap.size + 1) _ _ _ _ HZ.out) Tryz.underlying26 rfl HCs.out) rfl ⟨⟨N2,on2,np2,qh2,nh2,ch2,mm2,qk2,nk2,ck2,qc2,nc2,cc2,d2⟩,rfl,UO.row HU.out _ (Nat.le_succ _) (fun k hk => by have := HN.out k hk; omega),HD.out⟩
end Go.Proofs.YtpoinibckmbfcaaGreatDoor.UserM
namespace Go.Proofs.YtpoinibckmbfcaaGreatDoor.UserM
open Go.RowKit Kit StrT RowG RuleT UserT UserR TableMath Low ValT RefUser
open Go.Sort (grow)
set_option linter.unusedVariables false
set_option maxRecDepth 100000
theorem keep_stay {L : List (List UInt8)} {j : Nat} {p : List UInt8 → Bool} (hj : j < L.length) (h : p L[j] = true) : (L.take (j + 1)).filter (fun x => !p x) = (L.take j).filter (fun x => !p x) := by
 rw [List.take_succ_eq_append_getElem hj,List.filter_append]
 simp [h]
theorem keep_more {L : List (List UInt8)} {j : Nat} {p : List UInt8 → Bool} (hj : j < L.length) (h : p L[j] = false) : (L.take (j + 1)).filter (fun x => !p x) = (L.take j).filter (fun x => !p x) ++ [L[j]] := by
 rw [List.take_succ_eq_append_getElem hj,List.filter_append]
 simp [h]
structure DelR (w0 w : World) (g n c : Nat) (L M : List (List UInt8)) (p : List UInt8 → Bool) (i j : Nat) (wr : World) : Prop where
 ow : OwnB strE wr g n c M
 ij : i ≤ j
 jn : j ≤ n
 il : M.take i = (L.take j).filter (fun x => !p x)
 jl : M.drop j = L.drop j
 bl : Below w0.heap.size w0 wr
 gr : w.grownBy wr (some g)
theorem DelR.ilen {w0 w wr : World} {g n c i j : Nat} {L M : List (List UInt8)} {p : List UInt8 → Bool} (h : DelR w0 w g n c L M p i j wr) : ((L.take j).filter (fun x => !p x)).length = i := by
 rw [← h.il,List.length_take,h.ow.1]
 have := h.ij
 have := h.jn
 omega
theorem DelR.at_ {w0 w wr : World} {g n c i j : Nat} {L M : List (List UInt8)} {p : List UInt8 → Bool} (h : DelR w0 w g n c L M p i j wr) (hL : L.length = n) (hj : j < n) : ∃ hM : j < M.length,M[j] = L[j]'(by omega) := by
 have hM : j < M.length := by rw [h.ow.1]; exact hj
 refine ⟨hM,?_⟩
 have h1 := congrArg (fun l => l[0]?) h.jl
 simp only [List.getElem?_drop,Nat.add_zero] at h1
 rw [List.getElem?_eq_getElem hM,List.getElem?_eq_getElem (by omega)] at h1
 exact Option.some.inj h1
theorem DelR.keep {w0 w wr w' : World} {g n c i j : Nat} {L M : List (List UInt8)} {p : List UInt8 → Bool} (h : DelR w0 w g n c L M p i j wr) (hb : Below wr.heap.size wr w') : DelR w0 w g n c L M p i j w' :=
 ⟨h.ow.keep hb,h.ij,h.jn,h.il,h.jl,h.bl.trans (hb.mono h.bl.size),gr_trans h.gr (gr_below hb _)⟩
theorem drop_next {M L : List (List UInt8)} {j : Nat} (h : M.drop j = L.drop j) : M.drop (j + 1) = L.drop (j + 1) := by
 rw [← List.drop_drop,← List.drop_drop,h]
theorem DelR.gone {w0 w wr : World} {g n c i j : Nat} {L M : List (List UInt8)} {p : List UInt8 → Bool} (h : DelR w0 w g n c L M p i j wr) (hL : L.length = n) (hj : j < n) (hp : p (L[j]'(by omega)) = true) : DelR w0 w g n c L M p i (j + 1) wr :=
 ⟨h.ow,by have := h.ij; omega,hj,by rw [keep_stay (by omega) hp]; exact h.il,drop_next h.jl,h.bl,h.gr⟩
theorem DelR.stay {w0 w wr : World} {g n c i j : Nat} {L M : List (List UInt8)} {p : List UInt8 → Bool} (h : DelR w0 w g n c L M p i j wr) (hL : L.length = n) (hj : j < n) (hij : i < j) (hg : w0.heap.size ≤ g) (hp : p (L[j]'(by omega)) = false) (X : ByteArray) (hX : X.data.toList = L[j]'(by omega)) :
  DelR w0 w g n c L (M.set i (L[j]'(by omega))) p (i + 1) (j + 1) (wr.setCell ⟨g,i,none⟩ (.string X)) := by
 have hi : i < M.length := by rw [h.ow.1]; omega
 have hs := OwnB.set h.ow i 0 (L[j]'(by omega)) (.string X) hi (by decide) (by
  show [Value.string ⟨(L[j]'(by omega)).toArray⟩] = _
  rw [← hX]
  rfl)
 rw [show i * strE.sz + 0 = i from Nat.mul_one i] at hs
 refine ⟨hs,by omega,hj,?_,?_,h.bl.setCell (p := ⟨g,i,none⟩) hg _,gr_trans h.gr ⟨rfl,rfl,rfl,by simp,fun k hk hr => ?_⟩⟩
 · rw [keep_more (by omega) hp,← h.il]
   apply List.ext_getElem?
   intro k
   rw [List.getElem?_take,List.getElem?_set]
   by_cases h1 : k < i
   · rw [if_pos (by omega),if_neg (by omega),List.getElem?_append_left (by rw [List.length_take]; omega),List.getElem?_take,if_pos h1]
   · by_cases h2 : k = i
     · subst h2
       rw [if_pos (by omega),if_pos rfl,if_pos hi,List.getElem?_append_right (by rw [List.length_take]; omega),show k - (M.take k).length = 0 by rw [List.length_take]; omega]
       rfl
     · rw [if_neg (by omega)]
       rw [List.getElem?_eq_none]
       rw [List.length_append,List.length_take,List.length_singleton]
       omega
 · rw [List.drop_set_of_lt (by omega)]
   exact drop_next h.jl
 · exact heap_setCell_other _ _ _ _ (fun e => hr (by rw [e]))
theorem at_off {α : Type} (E : Enc α) (g c lo : Nat) (h : c ≠ lo) : RowG.partAt E (some ⟨g,0,none⟩) c lo = some ⟨g,lo * E.sz,none⟩ := by
 unfold RowG.partAt
 rw [if_neg h]
 show some (Addr.add ⟨g,0,none⟩ (lo * E.sz)) = _
 rw [Addr.add_lit,Nat.zero_add]
theorem filt_all {L : List (List UInt8)} {p : List UInt8 → Bool} (h : L.length ≤ L.findIdx p) : L.filter (fun x => !p x) = L := by
 rw [List.filter_eq_self]
 intro x hx
 obtain ⟨i,hi,rfl⟩ := List.getElem_of_mem hx
 have := List.not_of_lt_findIdx (xs := L) (p := p) (i := i) (by omega)
 simp [this]
theorem filt_head {L : List (List UInt8)} {p : List UInt8 → Bool} {k : Nat} (hk : k < L.length) (h : L.findIdx p = k) : L.take k = (L.take (k + 1)).filter (fun x => !p x) := by
 have hp : p L[k] = true := by
  have := List.findIdx_getElem (xs := L) (p := p) (w := by rw [h]; exact hk)
  simpa only [h] using this
 rw [keep_stay hk hp]
 symm
 rw [List.filter_eq_self]
 intro x hx
 obtain ⟨i,hi,rfl⟩ := List.getElem_of_mem hx
 rw [List.length_take] at hi
 rw [List.getElem_take]
 have := List.not_of_lt_findIdx (xs := L) (p := p) (i := i) (by omega)
 simp [this]
set_option maxHeartbeats 4000000 in
theorem del_any (w0 w : World) (q : Option Addr) (n c : Nat) (L : List (List UInt8)) (T : ByteArray) (a b : Bool) (bx : Nat) (hb : Below w0.heap.size w0 w) (ho : OwnR strE w0.heap.size w (.slice q n c) L) (hx : RBox w bx T a b) (hne : ∀ k,(Value.slice q n c).ownBlock = some k → k ≠ bx) (hm : n ≤ 1048575) :
  Calls Tryz.prog 67 #[.slice q n c,.func (.func 68) #[] #[.pointer (some ⟨bx,0,none⟩)]] w (StepP strE w0 w (.slice q n c) (L.filter (fun x => !decide (x = T.data.toList)))) := by
 have CI := Lib.hid (idxf_s 68 unhash_x #[.pointer (some ⟨bx,0,none⟩)] (fun x => decide (x = T.data.toList)) q L n c w (own_in ho (by omega)) (fun W hW X _ => unhash_c X T a b bx W (hx.keep hW)))
 obtain ⟨p,hp⟩ : ∃ p : List UInt8 → Bool,p = fun x => decide (x = T.data.toList) := ⟨_,rfl⟩
 rw [← hp] at CI
 rw [show (fun x => !decide (x = T.data.toList)) = fun x => !p x by rw [hp]]
 have hn := own_num ho
 by_cases hk : L.findIdx p < L.length
 · -- one at least
   obtain ⟨k,hkk⟩ : ∃ k,k = L.findIdx p := ⟨_,rfl⟩
   have hz : idxI L p = (k : Int) := by rw [hkk]; exact if_pos hk
   rw [hz] at CI
   have hkn : k < n := by omega
   obtain ⟨q0,c0,e0,h1,h2,h3,h4⟩ := OwnR.rowO ho
   injection e0 with e1 e2 e3
   clear e2
   subst e1
   rcases h4 with h4 | ⟨g,rfl,hgg,hO⟩
   · rw [h4] at hn
     simp at hn
     omega
   subst e3
   rw [hn] at hO h1
   have hne1 : bx ≠ g := fun e => hne g rfl e.symm
   have HD := Lib.hid (fun W (hW : Below w.heap.size w W) => DelR.keep (⟨hO,Nat.le_succ k,hkn,filt_head (p := p) (by omega) hkk.symm,rfl,hb,gr_refl w _⟩ : DelR w0 w g n c L L p k (k + 1) w) hW)
   have HX := Lib.hid (fun W (hW : w.grownBy W (some g)) => RBox.other hx (hW.block bx hx.lt (fun e => hne1 (Option.some.inj e))))
   have HC := Lib.hid (fun W (X : ByteArray) (hW : w.grownBy W (some g)) => unhash_c X T a b bx W (HX.out W hW))
   have HN := Lib.hid hn
   have HG := Lib.hid hgg
   have HP := Lib.hid hp
   have nk : ((k : Int) == -1) = false := by rw [beq_eq_false_iff_ne]; omega
   have hE := unhash_x
   clear hkk hp hn hO hgg hx hb ho hne hz hk h3 hne1
   go_enter Tryz.func67,Tryz.ntmps67
   go_wp2_with fail
   with_reducible refine CI.out.mono ?_
   rintro e w1 ⟨rfl,hb1⟩
   have HD1 := Lib.hid (HD.out w1 hb1)
   clear CI HD hb1
   go_wp2_with fail
   go_loopw [5,6] (fun i j wr => ∃ (M : List (List UInt8)) (ii jj : Nat),ii < jj ∧ jj ≤ n ∧ i = .int .i64 ii ∧ j = .int .i64 jj ∧ Hid (DelR w0 w g n c L M p ii jj wr)) (fun _ j _ => n - (intOf j).toNat)
   case atStart => exact ⟨L,k,k + 1,Nat.lt_succ_self k,hkn,rfl,by go_num,HD1⟩
   case round =>
    clear HD1 nk hkn
    obtain ⟨M,ii,jj,hij,hjn,rfl,rfl,HR⟩ := hrel
    by_cases hlt : jj < n
    · have d1 : decide ((jj : Int) < (n : Int)) = true := decide_eq_true (by omega)
      have j0 : (0 : Int) ≤ (jj : Int) := by omega
      have j1 : (jj : Int) < (n : Int) := by omega
      have i0 : (0 : Int) ≤ (ii : Int) := by omega
      have i1 : (ii : Int) < (n : Int) := by omega
      obtain ⟨hM,hMv⟩ := HR.out.at_ HN.out hlt
      have v0 := OwnB.cell HR.out.ow jj 0 hM (by decide)
      obtain ⟨X,hX⟩ : ∃ X : ByteArray,X = ⟨(M[jj]'hM).toArray⟩ := ⟨_,rfl⟩
      rw [show jj * strE.sz + 0 = jj from Nat.mul_one jj,show (strE.enc M[jj])[0]? = some (.string X) by rw [hX]; rfl] at v0
      have hXd : X.data.toList = L[jj]'(by rw [HN.out]; exact hlt) := by rw [hX,← hMv]
      have CF := (show Calls Tryz.prog 68 #[.string X,.pointer (some ⟨bx,0,none⟩)] wr _ from HC.out wr X HR.out.gr)
      obtain ⟨B,hB⟩ : ∃ B,B = decide (X.data.toList = T.data.toList) := ⟨_,rfl⟩
      rw [← hB] at CF
      have hBp : p (L[jj]'(by rw [HN.out]; exact hlt)) = B := by rw [HP.out,hB,hXd]
      have HCF := Lib.hid CF
      clear CF hX hMv hB
      cases B with
      | true =>
        have HR2 := Lib.hid (fun W (hW : Below wr.heap.size wr W) => (HR.out.gone HN.out hlt hBp).keep hW)
        clear hXd hBp hM
        go_wp2_with fail
        with_reducible refine HCF.out.mono ?_
        rintro e w2 ⟨rfl,hb2⟩
        have HR3 := Lib.hid (HR2.out _ hb2)
        clear HR2 HR hb2 v0 HCF
        go_wp2_with fail
        go_roundw
        case rel => exact ⟨M,ii,jj + 1,by omega,by omega,rfl,by go_num,HR3⟩
        case measure => simp [intOf]; omega
      | false =>
        have HR1 := Lib.hid (fun W (hW : Below wr.heap.size wr W) => HR.out.keep hW)
        have HS := Lib.hid (fun W (hW : Below wr.heap.size wr W) => (HR1.out W hW).stay HN.out hlt hij HG.out hBp X hXd)
        have hi : ii < M.length := by omega
        clear hXd hBp
        go_wp2_with fail
        with_reducible refine HCF.out.mono ?_
        rintro e w2 ⟨rfl,hb2⟩
        have HR3 := Lib.hid (HS.out _ hb2)
        have hO2 := (HR1.out w2 hb2).ow
        have u0 := OwnB.cell hO2 ii 0 hi (by decide)
        have u1 := OwnB.frz hO2 ii
        rw [show ii * strE.sz + 0 = ii from Nat.mul_one ii,show (strE.enc M[ii])[0]? = some (.string ⟨(M[ii]'hi).toArray⟩) from rfl] at u0
        generalize (⟨(M[ii]'hi).toArray⟩ : ByteArray) = Y at u0
        clear HR1 HS HR hb2 v0 HCF hO2 hi hM
        go_wp2_with fail
        go_roundw
        case rel => exact ⟨_,ii + 1,jj + 1,by omega,by omega,by go_num,by go_num,HR3⟩
        case measure => simp [intOf]; omega
    · obtain rfl : jj = n := by omega
      have d1 : decide ((jj : Int) < (jj : Int)) = false := decide_eq_false (by omega)
      obtain ⟨wc,hr2,hI2⟩ := run_clear_in (E := strE) 30 (ownB_take HR.out.ow ii (by omega)) (by intro u hu; simp [strE,Value.cells] at hu; subst hu; rfl) ii (jj - ii) (c - ii) (ii * strE.sz) rfl (Nat.le_refl _) (by omega)
      have s1 : ∀ W,(Instr.slice 22 (.slice (some ⟨g,0,none⟩) jj c) (some (.int .i64 (ii : Int))) none none).run Tryz.prog W = .ok (.slice (some ⟨g,ii * strE.sz,none⟩) (jj - ii) (c - ii)) W := fun W => by
       have := sl_from strE (some ⟨g,0,none⟩) jj c ii (by omega) (by omega) W
       rw [at_off strE g c ii (by omega)] at this
       exact this
      have s2 : ∀ W,(Instr.slice 22 (.slice (some ⟨g,0,none⟩) jj c) none (some (.int .i64 (ii : Int))) none).run Tryz.prog W = .ok (.slice (some ⟨g,0,none⟩) ii c) W := fun W => sl_upto strE _ jj c ii (by omega) W
      have h2 : ∀ ty,(Builtin.clear_ #[22] ty #[.slice (some ⟨g,ii * strE.sz,none⟩) (jj - ii) (c - ii)]).run Tryz.prog wr = .ok (.tuple #[]) wc := fun ty => hr2
      have hfl : L.filter (fun x => !p x) = M.take ii := by
       rw [HR.out.il,List.take_of_length_le (by rw [HN.out]; exact Nat.le_refl _)]
      have hll : (L.filter (fun x => !p x)).length = ii := by
       have := HR.out.ilen
       rwa [List.take_of_length_le (by rw [HN.out]; exact Nat.le_refl _)] at this
      have HE := Lib.hid (show StepR strE w0 w wc (.slice (some ⟨g,0,none⟩) jj c) (.slice (some ⟨g,0,none⟩) ii c) (L.filter (fun x => !p x)) from ⟨hI2.bl _ _ HR.out.bl HG.out,by rw [hfl]; exact ownB_ownR hI2.ow HG.out,gr_trans HR.out.gr ⟨hI2.bl _ _ HR.out.bl HG.out |>.os.trans HR.out.bl.os.symm,hI2.bl _ _ HR.out.bl HG.out |>.tape.trans HR.out.bl.tape.symm,hI2.bl _ _ HR.out.bl HG.out |>.output.trans HR.out.bl.output.symm,by rw [hI2.sz]; exact Nat.le_refl _,fun k hk hr => hI2.ot k (fun e => hr (by rw [e]; rfl))⟩⟩)
      have HLl := Lib.hid hll
      generalize ii * strE.sz = o1 at s1 h2
      generalize jj - ii = o2 at s1 h2
      generalize c - ii = o3 at s1 h2
      clear hI2 hr2 hfl hll HR
      go_wp2_with fail
      go_ret
      exact ⟨some ⟨g,0,none⟩,c,by rw [HLl.out]; rfl,by rw [HLl.out]; exact HE.out⟩
 · have hz : idxI L p = -1 := if_neg hk
   have HL := Lib.hid (filt_all (p := p) (show L.length ≤ L.findIdx p by omega))
   have HO := Lib.hid ho
   have HB := Lib.hid hb
   have HN := Lib.hid hn
   rw [hz] at CI
   clear hz hk hx hne ho hb hp hn
   go_enter Tryz.func67,Tryz.ntmps67
   go_wp2_with fail
   with_reducible refine CI.out.mono ?_
   rintro e w1 ⟨rfl,hb1⟩
   go_wp2_with fail
   go_ret
   rw [HL.out]
   exact ⟨q,c,by rw [HN.out]; rfl,HB.out.trans (hb1.mono HB.out.size),by rw [HN.out]; exact HO.out.keep hb1,gr_below hb1 _⟩
end Go.Proofs.YtpoinibckmbfcaaGreatDoor.UserM
namespace Go.Proofs.YtpoinibckmbfcaaGreatDoor.UserM
open Go.RowKit Kit StrT RowG RuleT UserT UserR TableMath Low ValT RefUser
open Go.Sort (grow)
set_option linter.unusedVariables false
set_option maxRecDepth 100000
theorem build_gl (T : ByteArray) (a b : Bool) (w : World) : (Instr.build 55 #[(0,.string T),(1,.bool a),(2,.bool b)]).run Tryz.prog w = .ok (.agg #[.string T,.bool a,.bool b]) w := run_build w 55 _ _ (by kernel_rfl)
theorem not_before {L : List KG} {p : KG → Bool} {k : Nat} (h : k ≤ L.findIdx p) : ∀ g ∈ L.take k,p g = false := by
 intro g hg
 obtain ⟨i,hi,rfl⟩ := List.getElem_of_mem hg
 rw [List.length_take] at hi
 rw [List.getElem_take]
 exact List.not_of_lt_findIdx (xs := L) (p := p) (i := i) (by omega)
theorem StepR.drew {α : Type} {E : Enc α} {w0 w w' : World} {v v' : Value} {L' : List α} (h : StepR E w0 w w' v v' L') : StepR E w0 w w'.drew v v' L' := ⟨h.bl.drew,h.ow.drew,⟨h.gr.os,h.gr.tape,h.gr.output,h.gr.size,h.gr.block⟩⟩
set_option maxHeartbeats 4000000 in
theorem withKeys_any (w0 w : World) (q : Option Addr) (n c : Nat) (L : List KG) (k m : Int) (T : ByteArray) (a b : Bool) (hb : Below w0.heap.size w0 w) (ho : OwnR glE w0.heap.size w (.slice q n c) L) (hm : n ≤ 1048575) :
  Calls Tryz.prog 69 #[.slice q n c,.agg #[.int .u8 k,.string T,.bool a,.bool b,.int .u64 m]] w (StepP glE w0 w (.slice q n c) (keysL L T.data.toList a b)) := by
 have hbox := Kit.below1 w (.cells #[.int .u8 k,.string T,.bool a,.bool b,.int .u64 m] 29)
 obtain ⟨wb,hwb⟩ : ∃ W,W = w.alloc (.cells #[.int .u8 k,.string T,.bool a,.bool b,.int .u64 m] 29) := ⟨_,rfl⟩
 have hx : RBox wb w.heap.size T a b := ⟨.int .u8 k,.int .u64 m,by rw [hwb]; exact heap_alloc_last w _⟩
 rw [← hwb] at hbox
 have ho1 := OwnR.keep ho hbox
 have CI := Lib.hid (idxf_g 107 keyed_x #[.pointer (some ⟨w.heap.size,0,none⟩)] (fun x => decide (x.pat = T.data.toList)) q L n c wb (own_in ho1 (by omega)) (fun W hW x X _ hX => by
  have := keyed_c X T x.r x.w a b w.heap.size W (hx.keep hW)
  rw [hX] at this
  exact this))
 obtain ⟨p,hp⟩ : ∃ p : KG → Bool,p = fun x => decide (x.pat = T.data.toList) := ⟨_,rfl⟩
 rw [← hp] at CI
 have hn := own_num ho
 have HW := Lib.hid hwb
 have HX := Lib.hid (fun W (hW : Below wb.heap.size wb W) => (hx.keep hW).cells)
 have hbw := hb.trans (hbox.mono hb.size)
 have bg := build_gl
 by_cases hk : L.findIdx p < L.length
 · obtain ⟨i,hi⟩ : ∃ i,i = L.findIdx p := ⟨_,rfl⟩
   have hz : idxI L p = (i : Int) := by rw [hi]; exact if_pos hk
   rw [hz] at CI
   have hin : i < n := by omega
   obtain ⟨q0,c0,e0,h1,h2,h3,h4⟩ := OwnR.rowO ho1
   injection e0 with e1 e2 e3
   clear e2
   subst e1
   rcases h4 with h4 | ⟨g,rfl,hgg,hO⟩
   · rw [h4] at hn
     simp at hn
     omega
   subst e3
   rw [hn] at hO h1
   have hil : i < L.length := by omega
   have hpi : p L[i] = true := by
    have := List.findIdx_getElem (xs := L) (p := p) (w := hk)
    simpa only [hi] using this
   have hpat : L[i].pat = T.data.toList := by rw [hp] at hpi; exact of_decide_eq_true hpi
   have hL := keys_set L i hil T.data.toList a b (fun x hxm => by
    have := not_before (p := p) (by omega) x hxm
    rw [hp] at this
    exact of_decide_eq_false this) hpat
   have HIl := Lib.hid hil
   have HL := Lib.hid (show keysL L T.data.toList a b = L.set i ⟨(L[i]'HIl.out).pat,(L[i]'HIl.out).r || a,(L[i]'HIl.out).w || b⟩ from hL)
   have hgb : g ≠ w.heap.size := by
    rcases ho.2 with ⟨e,h0⟩ | ⟨g',cap',cur',e,-,hh,-⟩
    · injection e with e1 e2 e3
      omega
    · injection e with e1 e2 e3
      injection e1 with e1
      injection e1 with e1
      rw [e1]
      exact Nat.ne_of_lt (Array.getElem?_eq_some_iff.1 hh).1
   have HO := Lib.hid (fun W (hW : Below wb.heap.size wb W) => hO.keep hW)
   have HN := Lib.hid hn
   have HGb := Lib.hid hgb
   have HG := Lib.hid hgg
   have HB := Lib.hid hbw
   have HBx := Lib.hid hbox
   have i0 : (0 : Int) ≤ (i : Int) := by omega
   have i1 : (i : Int) < (n : Int) := by omega
   have i2 : decide ((i : Int) < 0) = false := decide_eq_false (by omega)
   obtain ⟨xr,hxr⟩ : ∃ x,x = (L[i]'HIl.out).r := ⟨_,rfl⟩
   obtain ⟨xw,hxw⟩ : ∃ x,x = (L[i]'HIl.out).w := ⟨_,rfl⟩
   have HXr := Lib.hid hxr
   have HXw := Lib.hid hxw
   clear hi hp hpi hpat hL hgb hO hn hgg hbw hbox hx hb ho ho1 hz hk h3 hwb hxr hxw hin hil
   go_enter Tryz.func69,Tryz.ntmps69
   go_upto_region 1 with fail
   rw [← HW.out]
   go_wp2_with fail
   with_reducible refine CI.out.mono ?_
   rintro e w2 ⟨rfl,hb2⟩
   obtain ⟨b1,b2,b3⟩ := HX.out w2 hb2
   have hO2 := HO.out w2 hb2
   have u0 := OwnB.cell hO2 i 0 HIl.out (by decide)
   have u1 := OwnB.cell hO2 i 1 HIl.out (by decide)
   have u2 := OwnB.cell hO2 i 2 HIl.out (by decide)
   rw [show i * glE.sz + 1 = i * 3 + 1 from rfl,show (glE.enc (L[i]'HIl.out))[1]? = some (.bool xr) by rw [HXr.out]; rfl] at u1
   rw [show i * glE.sz + 2 = i * 3 + 2 from rfl,show (glE.enc (L[i]'HIl.out))[2]? = some (.bool xw) by rw [HXw.out]; rfl] at u2
   have HO2 := Lib.hid hO2
   have HB2 := Lib.hid hb2
   clear hO2 hb2 u0 CI HX HO
   have HKl := Lib.hid (show (keysL L T.data.toList a b).length = n by rw [HL.out,List.length_set]; exact HN.out)
   have HE := Lib.hid (fun w3 (hq : Below w2.heap.size w2 w3) => show StepR glE w0 w ((w3.setCell ⟨g,i * 3 + 1,none⟩ (.bool (xr || a))).setCell ⟨g,i * 3 + 2,none⟩ (.bool (xw || b))) (.slice (some ⟨g,0,none⟩) n c) (.slice (some ⟨g,0,none⟩) n c) (keysL L T.data.toList a b) from by
    have o1 := (HO2.out.keep hq).set i 1 ⟨(L[i]'HIl.out).pat,xr || a,xw⟩ (.bool (xr || a)) HIl.out (by decide) (by rw [HXw.out]; rfl)
    have o2 := o1.set i 2 ⟨(L[i]'HIl.out).pat,xr || a,xw || b⟩ (.bool (xw || b)) (by rw [List.length_set]; exact HIl.out) (by decide) (by rw [List.getElem_set_self]; rfl)
    rw [List.set_set] at o2
    have hB1 := HB.out.trans (HB2.out.mono HB.out.size)
    have hB2 := (hB1.trans (hq.mono hB1.size))
    refine ⟨(hB2.setCell (p := ⟨g,i * 3 + 1,none⟩) HG.out _).setCell (p := ⟨g,i * 3 + 2,none⟩) HG.out _,?_,?_⟩
    · rw [HL.out,← HXr.out,← HXw.out]
      exact ownB_ownR o2 HG.out
    · refine gr_trans (gr_below ((HBx.out.trans (HB2.out.mono HBx.out.size)).trans (hq.mono (HBx.out.trans (HB2.out.mono HBx.out.size)).size)) _) ⟨rfl,rfl,rfl,by simp,fun j hj hr => ?_⟩
      have hjg : j ≠ g := fun e => hr (by rw [e]; rfl)
      rw [heap_setCell_other _ _ _ _ hjg,heap_setCell_other _ _ _ _ hjg])
   have hfz := fun j => OwnB.frz HO2.out j
   have f1 := hfz (i * 3 + 1)
   have f2 := hfz (i * 3 + 2)
   clear hfz HO2 HB2
   have hgb := HGb.out
   have hgb2 : ¬ w.heap.size = g := fun e => hgb e.symm
   go_upto_region 4 with fail
   cases xr <;> cases xw
   all_goals
    go_region
   all_goals
    go_wp2_with fail
    go_ret
    exact ⟨some ⟨g,0,none⟩,c,by rw [HKl.out]; rfl,by rw [HKl.out]; exact (HE.out w2 (Below.refl _ _)).drew⟩
 · have hz : idxI L p = -1 := if_neg hk
   have hL := keys_past L T.data.toList a b (fun x hxm => by
    have := not_before (p := p) (k := L.length) (Nat.le_of_not_lt hk) x (by rw [List.take_length]; exact hxm)
    rw [hp] at this
    exact of_decide_eq_false this)
   have HL := Lib.hid hL
   have HN := Lib.hid hn
   have HO := Lib.hid (fun W (hW : Below wb.heap.size wb W) => OwnR.keep ho1 hW)
   have HB := Lib.hid hbw
   have HBx := Lib.hid hbox
   rw [hz] at CI
   have HC := Lib.hid (fun (W : World) => rec_new glE W W.heap.size ⟨T.data.toList,a,b⟩ #[.string T,.bool a,.bool b] rfl rfl)
   clear hz hk hx hb ho ho1 hp hn hbw hbox hL hwb
   go_enter Tryz.func69,Tryz.ntmps69
   go_upto_region 1 with fail
   rw [← HW.out]
   go_wp2_with fail
   with_reducible refine CI.out.mono ?_
   rintro e w2 ⟨rfl,hb2⟩
   obtain ⟨b1,b2,b3⟩ := HX.out w2 hb2
   have HB2 := Lib.hid hb2
   have HO1 := Lib.hid (OwnR.keep (HO.out w2 hb2) (show Below w2.heap.size w2 (w2.alloc (.cells #[.string T,.bool a,.bool b] glE.ty)) from Kit.below1 _ _))
   have HBa := Lib.hid ((HB.out.trans (hb2.mono HB.out.size)).alloc (HB.out.trans (hb2.mono HB.out.size)).size (.cells #[.string T,.bool a,.bool b] glE.ty))
   clear hb2 CI HX HO
   go_wp2_with (at_builtin; refine wpList_append_g glE (w0 := w0) rfl (.tmp 11) (.tmp 19) rfl (.slice q n c) L rfl HO1.out HBa.out w2.heap.size ⟨T.data.toList,a,b⟩ 1 rfl (HC.out w2) (by rw [HN.out]; omega) ?_; intro v' w7 hown hb7 hg7)
   go_ret
   rw [HL.out]
   obtain ⟨q',c',rfl,-⟩ := OwnR.ans hown
   exact ⟨q',c',rfl,hb7,hown,gr_trans (gr_below ((HBx.out.trans (HB2.out.mono HBx.out.size)).trans ((Kit.below1 w2 _).mono (Nat.le_trans HBx.out.size HB2.out.size))) _) hg7⟩
end Go.Proofs.YtpoinibckmbfcaaGreatDoor.UserM
