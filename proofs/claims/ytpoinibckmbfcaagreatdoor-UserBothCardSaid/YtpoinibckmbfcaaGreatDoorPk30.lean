/-
  Packed by program.
-/
import Derived.Test.YtpoinibckmbfcaaGreatDoorPk29
import Derived.Test.YtpoinibckmbfcaaGreatDoorPk18
namespace Go.Proofs.YtpoinibckmbfcaaGreatDoor.UserM
open Go.RowKit Kit StrT RowG RuleT UserT UserR TableMath Low ValT RefUser
open NumW (wordB)
open Go.Sort (grow)
set_option linter.unusedVariables false
set_option maxRecDepth 100000
structure RB (w : World) (p : UP) (W : World) : Prop where
 bl : Below w.heap.size w W
 bx : W.heap[w.heap.size]? = some (.cells (ucs p) 26 (0,0))
 ip : UIn W p
theorem RB.keep {w W W' : World} {p : UP} (h : RB w p W) (hb : Below W.heap.size W W') : RB w p W' :=
 ⟨h.bl.trans (hb.mono h.bl.size),by rw [hb.block _ (Array.getElem?_eq_some_iff.1 h.bx).1]; exact h.bx,h.ip.keep hb⟩
theorem RB.new {w : World} {p : UP} (h : UIn w p) : RB w p (w.alloc (.cells (ucs p) 26)) := ⟨Kit.below1 w _,heap_alloc_last w _,h.keep (Kit.below1 w _)⟩
theorem RB.u {w W : World} {N : ByteArray} {on np : Bool} {qh : Option Addr} {nh ch : Nat} {mm : Int} {qk : Option Addr} {nk ck : Nat} {qc : Option Addr} {nc cc : Nat} {d : UV} (h : RB w ⟨N,on,np,qh,nh,ch,mm,qk,nk,ck,qc,nc,cc,d⟩ W) :
  W.cell? ⟨w.heap.size,0,none⟩ = some (.string N) ∧ W.cell? ⟨w.heap.size,1,none⟩ = some (.bool on) ∧ W.cell? ⟨w.heap.size,2,none⟩ = some (.bool np) ∧ W.cell? ⟨w.heap.size,3,none⟩ = some (.slice qh nh ch) ∧ W.cell? ⟨w.heap.size,4,none⟩ = some (.int .u64 mm) ∧ W.cell? ⟨w.heap.size,5,none⟩ = some (.slice qk nk ck) ∧ W.cell? ⟨w.heap.size,6,none⟩ = some (.slice qc nc cc) := u_cells h.bx
theorem mask_bits (c : Nat) (hc : c < 18446744073709551616) : (bits .andNot .u64 (c : Int) 72057594037927935 == 0) = decide (c ≤ allM) := by
 have h1 := (andNot_nat c 72057594037927935 hc (by decide)).1
 have h2 : bits .andNot .u64 (c : Int) 72057594037927935 = ((c ^^^ (c &&& 72057594037927935) : Nat) : Int) := h1
 rw [h2]
 have h3 : c &&& 72057594037927935 = c % 2 ^ 56 := by rw [show (72057594037927935 : Nat) = 2 ^ 56 - 1 from rfl,Nat.and_two_pow_sub_one_eq_mod]
 rw [h3]
 by_cases h : c ≤ allM
 · rw [decide_eq_true h,Nat.mod_eq_of_lt (lt_allM.1 h),Nat.xor_self]
   rfl
 · rw [decide_eq_false h,beq_eq_false_iff_ne]
   intro e
   have e2 : c ^^^ c % 2 ^ 56 = 0 := by exact_mod_cast e
   have e3 := MacT.xor_zero e2
   have e4 := Nat.mod_lt c (show 0 < 2 ^ 56 by decide)
   exact h (lt_allM.2 (by omega))
theorem right_is (u : UV) : rightU u = (wordB u.name && (decide (u.name.length ≤ 32) && (decide (u.cmds ≤ allM) && (listB u.hs MacM.rightB && (listB (u.ks.map (·.pat)) wordB && (u.ks.all (fun g => g.r || g.w) && listB u.cs wordB)))))) := by
 unfold rightU listB onceB
 generalize wordB u.name = a
 generalize decide (u.name.length ≤ 32) = b
 generalize decide (u.cmds ≤ allM) = c
 generalize decide (List.Nodup u.hs) = d1
 generalize decide (u.hs.length ≤ 64) = d2
 generalize u.hs.all MacM.rightB = d3
 generalize decide (List.Nodup (u.ks.map (·.pat))) = e1
 generalize decide ((u.ks.map (·.pat)).length ≤ 64) = e2
 generalize (u.ks.map (·.pat)).all wordB = e3
 generalize (u.ks.all fun g => g.r || g.w) = f
 generalize decide (List.Nodup u.cs) = g1
 generalize decide (u.cs.length ≤ 64) = g2
 generalize u.cs.all wordB = g3
 cases a <;> cases b <;> cases c <;> cases f <;> simp [Bool.and_comm,Bool.and_left_comm]
theorem word_x (args : Array Value) (W : World) : (callFunc 35 args).run Tryz.prog W = .ok (.enter 35 args) W := by kernel_rfl
theorem rec_x (args : Array Value) (W : World) : (callFunc 38 args).run Tryz.prog W = .ok (.enter 38 args) W := by kernel_rfl
theorem word_l (q : Option Addr) (L : List (List UInt8)) (n c : Nat) (w : World) (h : RowIn strE w q n c L) (hl : ∀ x ∈ L,x.length ≤ 140737488351232) :
  Calls Tryz.prog 37 #[.slice q n c,.func (.func 35) #[] #[]] w fun e w' => e = .returned (.bool (listB L wordB)) ∧ Below w.heap.size w w' :=
 listed_any 35 word_x wordB q L n c w h (fun W _ X hX => (NumW.word_any X W (by
  have h1 : X.data.toList.length = X.size := by simp
  have := hl _ hX
  unfold maxLen
  omega)).mono (fun e w' ⟨he,hw⟩ => ⟨he,hw ▸ Below.refl _ _⟩))
theorem rec_l (q : Option Addr) (L : List (List UInt8)) (n c : Nat) (w : World) (hg : Gu w) (h : RowIn strE w q n c L) (hl : ∀ x ∈ L,x.length ≤ 1048576) :
  Calls Tryz.prog 37 #[.slice q n c,.func (.func 38) #[] #[]] w fun e w' => e = .returned (.bool (listB L MacM.rightB)) ∧ Below w.heap.size w w' :=
 listed_any 38 rec_x MacM.rightB q L n c w h (fun W hW X hX => MacT.right_any X W (by
  have h1 : X.data.toList.length = X.size := by simp
  have := hl _ hX
  omega) (hg.m.keep hW) (hg.n.keep hW))
structure RC (w : World) (N : ByteArray) (on np : Bool) (qh : Option Addr) (nh ch : Nat) (mm : Int) (qk : Option Addr) (nk ck : Nat) (qc : Option Addr) (nc cc : Nat) (d : UV) (b1 b2 b3 b4 b5 b6 b7 : Bool) : Prop where
 hx : RB w ⟨N,on,np,qh,nh,ch,mm,qk,nk,ck,qc,nc,cc,d⟩ (w.alloc (.cells #[.string N,.bool on,.bool np,.slice qh nh ch,.int .u64 mm,.slice qk nk ck,.slice qc nc cc] 26))
 kw : ∀ W,Calls Tryz.prog 35 #[.string N] W fun e w' => e = .returned (.bool b1) ∧ W = w'
 h2 : decide ((N.size : Int) ≤ 32) = b2
 h3 : (bits .andNot .u64 mm 72057594037927935 == 0) = b3
 kh : ∀ W,Hid (RB w ⟨N,on,np,qh,nh,ch,mm,qk,nk,ck,qc,nc,cc,d⟩ W) → Calls Tryz.prog 37 #[.slice qh nh ch,.func (.func 38) #[] #[]] W fun e w' => e = .returned (.bool b4) ∧ Below W.heap.size W w'
 kp : ∀ W,Hid (RB w ⟨N,on,np,qh,nh,ch,mm,qk,nk,ck,qc,nc,cc,d⟩ W) → Calls Tryz.prog 39 #[.slice qk nk ck,.func (.func 40) #[] #[]] W fun e w' => AnsRow strE (d.ks.map (·.pat)) W e w'
 kq : ∀ q c W,Hid (RowIn strE W q (d.ks.map (·.pat)).length c (d.ks.map (·.pat))) → Calls Tryz.prog 37 #[.slice q (d.ks.map (·.pat)).length c,.func (.func 35) #[] #[]] W fun e w' => e = .returned (.bool b5) ∧ Below W.heap.size W w'
 ke : ∀ W,Hid (RB w ⟨N,on,np,qh,nh,ch,mm,qk,nk,ck,qc,nc,cc,d⟩ W) → Calls Tryz.prog 41 #[.slice qk nk ck,.func (.func 42) #[] #[]] W fun e w' => e = .returned (.bool b6) ∧ Below W.heap.size W w'
 kc : ∀ W,Hid (RB w ⟨N,on,np,qh,nh,ch,mm,qk,nk,ck,qc,nc,cc,d⟩ W) → Calls Tryz.prog 37 #[.slice qc nc cc,.func (.func 35) #[] #[]] W fun e w' => e = .returned (.bool b7) ∧ Below W.heap.size W w'
end Go.Proofs.YtpoinibckmbfcaaGreatDoor.UserM
