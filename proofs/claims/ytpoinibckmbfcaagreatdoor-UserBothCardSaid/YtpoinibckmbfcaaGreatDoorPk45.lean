/-
  Packed by program.
-/
import Derived.Test.YtpoinibckmbfcaaGreatDoorPk44
import Derived.Test.YtpoinibckmbfcaaGreatDoorPk29
namespace Go.Proofs.YtpoinibckmbfcaaGreatDoor.UserT
open Go.RowKit Kit TableMath Low RuleT HexMath NumMath
open NumW (wordB okByte)
set_option linter.unusedVariables false
set_option maxRecDepth 100000
def npW : List UInt8 := [110,111,112,97,115,115]
def stepL (u : UV) (w : List UInt8) : Option UV := match ruleD w with | none => none | some r => applyD u r none
def foldL : UV → List (List UInt8) → Option UV
  | u,[] => some u
  | u,w :: t => (stepL u w).bind fun v => foldL v t
theorem patD_k {k : Nat} {s : List UInt8} {a b : Bool} {r : RV} (h : patD k s a b = some r) : r.kind = k := by
 unfold patD at h
 split at h
 · injection h with h
   rw [← h]
 · cases h
theorem markD_k {k : Nat} {l : List UInt8} {r : RV} (h : markD k l = some r) : r.kind ≠ 3 := by
 unfold markD at h
 split at h
 · injection h with h; rw [← h]; simp
 · split at h
   · injection h with h; rw [← h]; simp
   · cases h
 · split at h
   · injection h with h; rw [← h]; simp
   · cases h
 · obtain ⟨m,-,rfl⟩ := Option.map_eq_some_iff.1 h; simp
 · obtain ⟨m,-,rfl⟩ := Option.map_eq_some_iff.1 h; simp
 · rw [patD_k h]; decide
 · rw [patD_k h]; decide
 · rw [patD_k h]; decide
 · rw [patD_k h]; decide
 · rw [patD_k h]; decide
 · cases h
theorem plain3 {s : List UInt8} (h : plainD s = some 3) : s = npW := by
 unfold plainD at h
 have hle := plainF_le s
 have h2 : plainF s = 2 := by
  generalize plainF s = i at h hle
  have : i = 0 ∨ i = 1 ∨ i = 2 ∨ i = 3 ∨ i = 4 ∨ i = 5 ∨ i = 6 ∨ i = 7 := by omega
  rcases this with rfl | rfl | rfl | rfl | rfl | rfl | rfl | rfl <;> first | rfl | (revert h; decide)
 have h3 := List.findIdx_getElem (xs := plainW) (p := fun c => decide (c = s)) (w := by
  show plainF s < _
  rw [h2]
  decide)
 simp only [show plainW.findIdx (fun c => decide (c = s)) = 2 from h2] at h3
 exact (of_decide_eq_true h3).symm
theorem other3 {s : List UInt8} (h : otherD s = npW) : s = npW := by
 unfold otherD at h
 split at h
 · exact absurd h (by decide)
 · split at h
   · exact absurd h (by decide)
   · split at h
     · exact absurd h (by decide)
     · split at h
       · exact absurd h (by decide)
       · exact h
theorem rule_np : ruleD npW = some ⟨3,[],false,false,0⟩ := by decide +kernel
theorem rule3 {w : List UInt8} {r : RV} (h : ruleD w = some r) : r.kind = 3 ↔ w = npW := by
 constructor
 · intro h3
   unfold ruleD ruleO at h
   split at h
   · rename_i k hk
     injection h with h
     subst h
     simp only at h3
     subst h3
     exact other3 (plain3 hk)
   · exact absurd h3 (markD_k h)
 · rintro rfl
   rw [rule_np] at h
   injection h with h
   rw [← h]
theorem set_np (u : UV) (b : Bool) (r : RV) (x : List UInt8) : ∃ c,setU { u with np := b } r x = { setU u r x with np := c } := by
 obtain ⟨k,s,a,a',m⟩ := r
 match k with
 | 0 | 1 | 2 | 3 | 4 | 5 | 6 | 7 | 8 | 9 | 10 | 11 | 12 | 13 | 14 => exact ⟨_,rfl⟩
 | n + 15 => exact ⟨_,rfl⟩
theorem np_set (u : UV) (r : RV) (x : List UInt8) : ((setU u r x).np || u.np) = (u.np || decide (r.kind = 3)) := by
 obtain ⟨k,s,a,a',m⟩ := r
 obtain ⟨name,on,np,hs,cmds,ks,cs⟩ := u
 match k with
 | 0 | 1 | 2 | 3 | 4 | 5 | 6 | 7 | 8 | 9 | 10 | 11 | 12 | 13 | 14 => cases np <;> rfl
 | n + 15 =>
   have : decide (n + 15 = 3) = false := decide_eq_false (by omega)
   simp only [this]
   cases np <;> rfl
theorem app_none (u : UV) (r : RV) : applyD u r none = if rightR r = true ∧ r.kind ≠ 5 ∧ fewB (setU u r []) = true then some (setU u r []) else none := by
 unfold applyD
 by_cases h1 : rightR r = true
 · by_cases h5 : r.kind = 5
   · rw [if_pos h1,if_pos h5,if_neg (fun h => h.2.1 h5)]
   · by_cases hf : fewB (setU u r []) = true
     · rw [if_pos h1,if_neg h5,if_pos hf,if_pos ⟨h1,h5,hf⟩]
     · rw [if_pos h1,if_neg h5,if_neg hf,if_neg (fun h => hf h.2.2)]
 · rw [if_neg h1,if_neg (fun h => h1 h.1)]
theorem fold_same : ∀ (ws : List (List UInt8)) (u : UV) (b : Bool),foldU u ws = (foldL { u with np := b } ws).map (fun v => { v with np := u.np || decide (npW ∈ ws) })
  | [],u,b => by simp [foldU,foldL]
  | w :: t,u,b => by
    have hU : foldU u (w :: t) = (stepU u w).bind fun v => foldU v t := rfl
    have hL : foldL { u with np := b } (w :: t) = (stepL { u with np := b } w).bind fun v => foldL v t := rfl
    rw [hU,hL]
    unfold stepU stepL
    cases hr : ruleD w with
    | none => rfl
    | some r =>
      simp only
      obtain ⟨c,hc⟩ := set_np u b r []
      have hn := np_set u r []
      have h3 : decide (r.kind = 3) = decide (npW = w) := by
       by_cases h : w = npW
       · rw [decide_eq_true ((rule3 hr).2 h),decide_eq_true h.symm]
       · rw [decide_eq_false (fun e => h ((rule3 hr).1 e)),decide_eq_false (fun e => h e.symm)]
      rw [app_none u r,app_none { u with np := b } r,hc]
      generalize hS : setU u r [] = S at hn
      have hf : fewB { S with np := c } = fewB S := rfl
      rw [hf]
      by_cases hk : rightR r = true ∧ r.kind ≠ 5 ∧ fewB S = true
      · rw [if_pos hk,if_pos hk,if_neg hk.2.1]
        simp only [Option.map_some,Option.bind_some]
        rw [fold_same t { S with np := S.np || u.np } c]
        have e : ((S.np || u.np) || decide (npW ∈ t)) = (u.np || decide (npW ∈ w :: t)) := by
         rw [hn,h3]
         by_cases ha : npW = w <;> by_cases hb : npW ∈ t <;> simp [ha,hb]
        simp only [e]
      · rw [if_neg hk,if_neg hk]
        simp
def lineD (l : List UInt8) : Option UV :=
 match splitW l with
 | _ :: n :: t => (foldL (newU n) t).bind fun v => if rightU { v with np := decide (npW ∈ t) } ∧ textD { v with np := decide (npW ∈ t) } = l then some { v with np := decide (npW ∈ t) } else none
 | _ => none
theorem line_is (l : List UInt8) : parseD l = lineD l := by
 unfold parseD lineD
 rcases splitW l with _ | ⟨x,_ | ⟨n,t⟩⟩
 · rfl
 · rfl
 · simp only
   rw [fold_same t (newU n) false]
   rw [show ({ newU n with np := false } : UV) = newU n from rfl,show (newU n).np = false from rfl]
   simp only [Bool.false_or]
   cases foldL (newU n) t with
   | none => rfl
   | some v => rfl
theorem step_few {u v : UV} {w : List UInt8} (h : stepL u w = some v) : v.hs.length ≤ 64 ∧ v.ks.length ≤ 64 ∧ v.cs.length ≤ 64 := by
 unfold stepL at h
 split at h
 · cases h
 · obtain ⟨-,hf,-⟩ := apply_inv h
   exact of_decide_eq_true hf
theorem masks_small : (List.range 13).all (fun k => decide (maskK k 56 < 18446744073709551616)) = true := by decide +kernel
theorem mask_lt {s : List UInt8} {m : Nat} (h : maskD s = some m) : m < 18446744073709551616 := by
 unfold maskD at h
 split at h
 · split at h
   · rename_i hb
     injection h with h
     unfold catB at hb
     have hk := of_decide_eq_true hb
     rw [← h]
     unfold catV
     rw [if_pos hk]
     exact of_decide_eq_true (List.all_eq_true.1 masks_small _ (List.mem_range.2 hk))
   · cases h
 · split at h
   · rename_i hb
     injection h with h
     have hk := of_decide_eq_true hb.1
     rw [← h]
     unfold findV
     rw [if_pos hk,Int.toNat_natCast]
     exact Nat.lt_of_lt_of_le (Nat.pow_lt_pow_right (by decide) hk) (by decide)
   · cases h
theorem rule_small {w : List UInt8} {r : RV} (h : ruleD w = some r) : r.kind ≤ 255 ∧ r.mask < 18446744073709551616 := by
 have pat : ∀ {k : Nat} {s : List UInt8} {a b : Bool} {r : RV},k ≤ 255 → patD k s a b = some r → r.kind ≤ 255 ∧ r.mask < 18446744073709551616 := by
  intro k s a b r hk h
  unfold patD at h
  split at h
  · injection h with h
    rw [← h]
    exact ⟨hk,by simp⟩
  · cases h
 unfold ruleD ruleO at h
 split at h
 · rename_i k hk
   injection h with h
   rw [← h]
   refine ⟨?_,by simp⟩
   unfold plainD at hk
   have := List.mem_of_getElem? hk
   simp [plainK] at this
   simp only
   omega
 · unfold markD at h
   split at h
   · injection h with h; rw [← h]; simp
   · split at h
     · injection h with h; rw [← h]; simp
     · cases h
   · split at h
     · injection h with h; rw [← h]; simp
     · cases h
   · obtain ⟨m,hm,rfl⟩ := Option.map_eq_some_iff.1 h
     exact ⟨by simp,mask_lt hm⟩
   · obtain ⟨m,hm,rfl⟩ := Option.map_eq_some_iff.1 h
     exact ⟨by simp,mask_lt hm⟩
   · exact pat (by decide) h
   · exact pat (by decide) h
   · exact pat (by decide) h
   · exact pat (by decide) h
   · exact pat (by decide) h
   · cases h
end Go.Proofs.YtpoinibckmbfcaaGreatDoor.UserT
namespace Go.Proofs.YtpoinibckmbfcaaGreatDoor.UserM
open Go.RowKit Kit StrT RowG RuleT UserT UserR TableMath Low ValT RefUser
open Go.Sort (grow)
open RefRule (results_cell_slot)
set_option linter.unusedVariables false
set_option maxRecDepth 100000
theorem foldL_app : ∀ (a b : List (List UInt8)) (u : UV),foldL u (a ++ b) = (foldL u a).bind fun v => foldL v b
  | [],b,u => rfl
  | x :: a,b,u => by
    show ((stepL u x).bind fun v => foldL v (a ++ b)) = _
    rw [show foldL u (x :: a) = (stepL u x).bind fun v => foldL v a from rfl]
    cases stepL u x with
    | none => rfl
    | some v => exact foldL_app a b v
theorem foldL_next {u d : UV} {L : List (List UInt8)} {k : Nat} (hk : k < L.length) (h : foldL u (L.take k) = some d) : foldL u (L.take (k + 1)) = stepL d L[k] := by
 rw [List.take_succ_eq_append_getElem hk,foldL_app,h]
 show ((stepL d L[k]).bind fun v => foldL v []) = _
 cases stepL d L[k] with
 | none => rfl
 | some v => rfl
theorem foldL_none {u d : UV} {L : List (List UInt8)} {k : Nat} (hk : k < L.length) (h : foldL u (L.take k) = some d) (hn : stepL d L[k] = none) : foldL u L = none := by
 have e := List.take_append_drop (k + 1) L
 rw [← e,foldL_app,foldL_next hk h,hn]
 rfl
theorem mark_len {k : Nat} {l : List UInt8} {r : RV} (h : markD k l = some r) : r.s.length ≤ l.length := by
 have pat : ∀ {k : Nat} {s : List UInt8} {a b : Bool} {r : RV},patD k s a b = some r → r.s.length ≤ s.length := by
  intro k s a b r h
  unfold patD at h
  split at h
  · injection h with h
    rw [← h]
    exact Nat.le_refl _
  · cases h
 unfold markD at h
 split at h
 · injection h with h; rw [← h]; exact Nat.le_refl _
 · split at h
   · injection h with h; rw [← h]; exact Nat.le_refl _
   · cases h
 · split at h
   · injection h with h; rw [← h]; exact Nat.le_refl _
   · cases h
 · obtain ⟨m,hm,rfl⟩ := Option.map_eq_some_iff.1 h
   exact Nat.zero_le _
 · obtain ⟨m,hm,rfl⟩ := Option.map_eq_some_iff.1 h
   exact Nat.zero_le _
 · exact pat h
 · exact pat h
 · exact pat h
 · exact pat h
 · exact pat h
 · cases h
theorem other_len (s : List UInt8) : (otherD s).length ≤ s.length + 5 := by
 unfold otherD
 split
 · exact Nat.le_add_left 5 _
 · split
   · exact Nat.le_add_left 5 _
   · split
     · exact Nat.le_trans (show 2 ≤ 5 by decide) (Nat.le_add_left 5 _)
     · split
       · exact Nat.le_trans (show 2 ≤ 5 by decide) (Nat.le_add_left 5 _)
       · omega
theorem rule_len {w : List UInt8} {r : RV} (h : ruleD w = some r) : r.s.length ≤ w.length + 5 := by
 unfold ruleD ruleO at h
 have ho := other_len w
 split at h
 · injection h with h
   rw [← h]
   exact Nat.zero_le _
 · have := mark_len h
   rw [List.length_drop] at this
   omega
structure RL (w : World) (p0 p : UP) (W : World) : Prop where
 bl : Below w.heap.size w W
 bx : W.heap[w.heap.size]? = some (.cells (ucs p) 26 (0,0))
 bz : W.heap[w.heap.size + 1]? = some (.cells ucs0 26 (0,0))
 ip : UIn W p
 ap : ∀ k,p.at_ k → p0.at_ k ∨ w.heap.size + 2 ≤ k
 lp : ∀ k,p0.at_ k → k < w.heap.size
theorem RL.keep {w W W' : World} {p0 p : UP} (h : RL w p0 p W) (hb : Below W.heap.size W W') : RL w p0 p W' :=
 ⟨h.bl.trans (hb.mono h.bl.size),by rw [hb.block _ (Array.getElem?_eq_some_iff.1 h.bx).1]; exact h.bx,by rw [hb.block _ (Array.getElem?_eq_some_iff.1 h.bz).1]; exact h.bz,h.ip.keep hb,h.ap,h.lp⟩
theorem RL.new {w : World} {p : UP} (h : UIn w p) : RL w p p ((w.alloc (.cells (ucs p) 26)).alloc (.cells ucs0 26)) := by
 have b1 := Kit.below1 w (.cells (ucs p) 26)
 refine ⟨b1.alloc b1.size _,?_,?_,h.keep (b1.alloc b1.size _),fun k hk => Or.inl hk,fun k hk => UIn.lt h k hk⟩
 · rw [(Kit.below1 _ _).block _ (by simp)]
   exact heap_alloc_last w _
 · have := heap_alloc_last (w.alloc (.cells (ucs p) 26)) (.cells ucs0 26)
   simpa using this
theorem RL.off {w W : World} {p0 p : UP} (h : RL w p0 p W) (k : Nat) (hk : p.at_ k) : k ≠ w.heap.size ∧ k ≠ w.heap.size + 1 := by
 rcases h.ap k hk with h1 | h1
 · have := h.lp k h1
   omega
 · omega
theorem RL.size {w W : World} {p0 p : UP} (h : RL w p0 p W) : w.heap.size + 2 ≤ W.heap.size := (Array.getElem?_eq_some_iff.1 h.bz).1
theorem RL.next {w W W' : World} {p0 p p2 : UP} (h : RL w p0 p W) (hb : Below W.heap.size W W') (h2 : UIn W' p2) (ha : ∀ k,p2.at_ k → p.at_ k ∨ W.heap.size ≤ k) : RL w p0 p2 (W'.setRow w.heap.size (ucs p2)) := by
 have h' := h.keep hb
 have hs := h.size
 have hap : ∀ k,p2.at_ k → p0.at_ k ∨ w.heap.size + 2 ≤ k := fun k hk => by
  rcases ha k hk with h1 | h1
  · exact h.ap k h1
  · exact Or.inr (by omega)
 exact ⟨below_setRow h'.bl (Nat.le_refl _) _,setRow_heap _ _ _ _ _ _ h'.bx,by rw [setRow_other _ _ _ _ (by omega)]; exact h'.bz,UIn.row h2 _ (fun k hk => by
  rcases hap k hk with h1 | h1
  · have := h.lp k h1
    omega
  · omega),hap,h.lp⟩
def RuA (p0 : UP) (w : World) (oo : Option UV) (e : Ending) (w' : World) : Prop := ∃ p : UP,e = .returned (.tuple #[p.agg,.bool oo.isSome]) ∧ UIn w' p ∧ (∀ v,oo = some v → p.d = v) ∧ (∀ k,p.at_ k → p0.at_ k ∨ w.heap.size ≤ k) ∧ Below w.heap.size w w'
theorem RL.fin {w W : World} {p0 p : UP} (h : RL w p0 p W) (oo : Option UV) (hv : ∀ v,oo = some v → p.d = v) (b : Bool) (hb : b = oo.isSome) : RuA p0 w oo (.returned (.tuple #[p.agg,.bool b])) (W.setRow (w.heap.size + 1) (ucs p)) :=
 ⟨p,by rw [hb],UIn.row h.ip _ (fun k hk => (h.off k hk).2),hv,fun k hk => (h.ap k hk).imp id (fun h => by omega),below_setRow h.bl (by omega) _⟩
set_option maxHeartbeats 8000000 in
theorem ruled_c (p : UP) (q : Option Addr) (L : List (List UInt8)) (n c : Nat) (w : World) (hg : Gu w) (hU : UIn w p) (hf : p.d.hs.length ≤ 64 ∧ p.d.ks.length ≤ 64 ∧ p.d.cs.length ≤ 64) (hL : RowIn strE w q n c L) (hz : ∀ x ∈ L,x.length ≤ 65536) :
  Calls Tryz.prog 31 #[p.agg,.slice q n c] w (RuA p w (foldL p.d L)) := by
 have HX0 := Lib.hid (RL.new hU)
 have HF0 := Lib.hid (show foldL p.d (L.take 0) = some p.d from by rw [List.take_zero]; rfl)
 have HW0 := Lib.hid hf
 have HG := Lib.hid hg
 have HR := Lib.hid hL
 have HN := Lib.hid hL.l
 have HZ := Lib.hid hz
 have hnf : n ≤ 1048576 := hL.f
 have hcs := fun x0 x1 x2 x3 x4 x5 x6 => user_cs x0 x1 x2 x3 x4 x5 x6
 obtain ⟨N,on,np,qh,nh,ch,mm,qk,nk,ck,qc,nc,cc,d⟩ := p
 generalize hP : (⟨N,on,np,qh,nh,ch,mm,qk,nk,ck,qc,nc,cc,d⟩ : UP) = P0 at HX0 ⊢
 have hD : P0.d = d := by rw [← hP]
 rw [hD]
 have hag : P0.agg = .agg #[.string N,.bool on,.bool np,.slice qh nh ch,.int .u64 mm,.slice qk nk ck,.slice qc nc cc] := by rw [← hP]; rfl
 rw [hag]
 replace HX0 : Hid (RL w P0 ⟨N,on,np,qh,nh,ch,mm,qk,nk,ck,qc,nc,cc,d⟩ ((w.alloc (.cells #[.string N,.bool on,.bool np,.slice qh nh ch,.int .u64 mm,.slice qk nk ck,.slice qc nc cc] 26)).alloc (.cells #[.string ⟨#[]⟩,.bool false,.bool false,.slice none 0 0,.int .u64 0,.slice none 0 0,.slice none 0 0] 26))) := by rw [hP]; subst hP; exact HX0
 clear hg hU hf hL hz hP hD hag
 go_enter Tryz.func31,Tryz.ntmps31
 go_upto_region 1 with fail
 generalize (w.alloc _).alloc _ = w1 at HX0 ⊢
 go_wp2_with fail
 go_loopw [12] (fun i wr => ∃ (k : Nat) (N1 : ByteArray) (on1 np1 : Bool) (qh1 : Option Addr) (nh1 ch1 : Nat) (mm1 : Int) (qk1 : Option Addr) (nk1 ck1 : Nat) (qc1 : Option Addr) (nc1 cc1 : Nat) (d1 : UV),k ≤ n ∧ i = .int .i64 k ∧ Hid (RL w P0 ⟨N1,on1,np1,qh1,nh1,ch1,mm1,qk1,nk1,ck1,qc1,nc1,cc1,d1⟩ wr) ∧ Hid (foldL d (L.take k) = some d1) ∧ Hid (d1.hs.length ≤ 64 ∧ d1.ks.length ≤ 64 ∧ d1.cs.length ≤ 64)) (fun i _ => n - (intOf i).toNat)
 case atStart => exact ⟨0,N,on,np,qh,nh,ch,mm,qk,nk,ck,qc,nc,cc,d,Nat.zero_le _,rfl,HX0,HF0,HW0⟩
 case round =>
  clear HX0 HF0 HW0
  obtain ⟨k,N1,on1,np1,qh1,nh1,ch1,mm1,qk1,nk1,ck1,qc1,nc1,cc1,d1,hk,rfl,HX,HF,HW⟩ := hrel
  have hcs1 := hcs (.string N1) (.bool on1) (.bool np1) (.slice qh1 nh1 ch1) (.int .u64 mm1) (.slice qk1 nk1 ck1) (.slice qc1 nc1 cc1)
  have HCs := Lib.hid hcs1
  have HOn := Lib.hid (user_one N1 on1 np1 qh1 qk1 qc1 nh1 ch1 nk1 ck1 nc1 cc1 mm1)
  clear hcs1
  by_cases hlt : k < n
  · have d0 : decide ((k : Int) < (n : Int)) = true := decide_eq_true (by omega)
    have hkl : k < L.length := by rw [HN.out]; exact hlt
    have k0 : (0 : Int) ≤ (k : Int) := by omega
    have k1 : (k : Int) < (n : Int) := by omega
    obtain ⟨b,off,rfl,hbl,hc⟩ := (rs_ss.1 (HR.out.r.keep HX.out.bl)) (by omega)
    have v0 := hc k hkl
    have hxz := HZ.out L[k] (List.getElem_mem hkl)
    have hnx := foldL_next hkl HF.out
    have hno := fun h => foldL_none hkl HF.out h
    generalize L[k] = x at v0 hxz hnx hno
    obtain ⟨X,hX,hX2⟩ := str_s x
    rw [hX2] at v0
    have hXz : X.size ≤ 65536 := by
     have : X.data.toList.length = X.size := by simp
     rw [hX] at this
     omega
    have CR := RuleM.rule_any X wr (by omega) (HG.out.keep HX.out.bl).gw
    rw [hX] at CR
    unfold stepL at hnx hno
    have hsm := fun (r : RV) (h : ruleD x = some r) => rule_small h
    have hrl := fun (r : RV) (h : ruleD x = some r) => rule_len h
    clear hc hbl hX2 HR
    cases hr : ruleD x with
    | none =>
      rw [hr] at CR hno
      have HNo := Lib.hid (hno rfl)
      have HC := Lib.hid CR
      clear hno hnx CR hsm hrl hX hxz hXz hr hkl
      go_wp2_with fail
      with_reducible refine HC.out.mono ?_
      rintro e w4 ⟨he,hb4⟩
      replace he : e = .returned (.tuple #[.agg #[.int .u8 0,.string ⟨#[]⟩,.bool false,.bool false,.int .u64 0],.bool false]) := he
      subst he
      have HX4 := Lib.hid ((HX.out.keep hb4).keep (Kit.below1 w4 (.cells #[.int .u8 0,.string ⟨#[]⟩,.bool false,.bool false,.int .u64 0] 29)))
      clear hb4 HX HC v0
      go_upto_region 6 with fail
      generalize w4.alloc _ = W5 at HX4 ⊢
      obtain ⟨u0,u1,u2,u3,u4,u5,u6⟩ := u_cells HX4.out.bx
      go_wp2_with (with_reducible refine wpList_store_row rfl 26 (.tmp 4) (.tmp 23) rfl (w.heap.size + 1) #[.string N1,.bool on1,.bool np1,.slice qh1 nh1 ch1,.int .u64 mm1,.slice qk1 nk1 ck1,.slice qc1 nc1 cc1] rfl rfl 26 _ HX4.out.bz HCs.out rfl HOn.out ?_)
      exact bodyPost_ret (results_cell_slot rfl _ _ (w.heap.size + 1) 26 #[.string N1,.bool on1,.bool np1,.slice qh1 nh1 ch1,.int .u64 mm1,.slice qk1 nk1 ck1,.slice qc1 nc1 cc1] (0,0) _ (.bool false) rfl (setRow_heap _ (w.heap.size + 1) _ _ _ _ HX4.out.bz) Tryz.underlying26 rfl HCs.out rfl) rfl (RL.fin HX4.out (foldL d L) (fun v h => by rw [HNo.out] at h; cases h) false (by rw [HNo.out]; rfl))
    | some r =>
      have hs1 := hsm r hr
      have hs2 := hrl r hr
      rw [hr] at CR hno hnx
      simp only at hno hnx
      obtain ⟨rk,rs,ra,rb,rm⟩ := r
      simp only at hs1 hs2
      obtain ⟨T,hT,hT2⟩ := str_s rs
      have hTz : T.size ≤ 1048576 := by
       have : T.data.toList.length = T.size := by simp
       rw [hT] at this
       omega
      have HC : Hid (Calls Tryz.prog 61 #[.string X] wr fun e w' => e = .returned (.tuple #[.agg #[.int .u8 (rk : Int),.string T,.bool ra,.bool rb,.int .u64 (rm : Int)],.bool true]) ∧ Below wr.heap.size wr w') := Lib.hid (by rw [← hT2]; exact CR)
      have CA := Lib.hid (fun W (h : Gu W) (hU : UIn W ⟨N1,on1,np1,qh1,nh1,ch1,mm1,qk1,nk1,ck1,qc1,nc1,cc1,d1⟩) => (by
       have := apply_f ⟨N1,on1,np1,qh1,nh1,ch1,mm1,qk1,nk1,ck1,qc1,nc1,cc1,d1⟩ rk rm T ra rb none 0 0 [] 0 W h hU HW.out hTz hs1.2 hs1.1 (fun h0 => by simp at h0) rfl (fun _ => rfl) (by decide) (by decide)
       rw [hT,show recD rs [] 0 = none from rfl] at this
       exact this : Calls Tryz.prog 10 #[.agg #[.string N1,.bool on1,.bool np1,.slice qh1 nh1 ch1,.int .u64 mm1,.slice qk1 nk1 ck1,.slice qc1 nc1 cc1],.agg #[.int .u8 (rk : Int),.string T,.bool ra,.bool rb,.int .u64 (rm : Int)],.slice none 0 0,.int .i64 0] W (AnsUB (UP.at_ ⟨N1,on1,np1,qh1,nh1,ch1,mm1,qk1,nk1,ck1,qc1,nc1,cc1,d1⟩) ((applyD d1 ⟨rk,rs,ra,rb,rm⟩ none).getD d1) (applyD d1 ⟨rk,rs,ra,rb,rm⟩ none).isSome W)))
      have hfw := fun v (h : applyD d1 ⟨rk,rs,ra,rb,rm⟩ none = some v) => step_few (w := x) (u := d1) (v := v) (by unfold stepL; rw [hr]; exact h)
      generalize applyD d1 ⟨rk,rs,ra,rb,rm⟩ none = oa at CA hno hnx hfw
      clear CR hsm hrl hs1 hs2 hT hT2 hTz hr hX hxz hXz hkl
      have HNx := Lib.hid hnx
      have HNo := Lib.hid hno
      have HFw := Lib.hid hfw
      clear hnx hno hfw
      go_wp2_with fail
      with_reducible refine HC.out.mono ?_
      rintro e w4 ⟨rfl,hb4⟩
      have HX4 := Lib.hid ((HX.out.keep hb4).keep (Kit.below1 w4 (.cells #[.int .u8 (rk : Int),.string T,.bool ra,.bool rb,.int .u64 (rm : Int)] 29)))
      have hrc := heap_alloc_last w4 (.cells #[.int .u8 (rk : Int),.string T,.bool ra,.bool rb,.int .u64 (rm : Int)] 29)
      clear hb4 HX HC v0
      go_upto_region 7 with fail
      generalize w4.alloc _ = W5 at HX4 hrc ⊢
      obtain ⟨u0,u1,u2,u3,u4,u5,u6⟩ := u_cells HX4.out.bx
      obtain ⟨c0,c1,c2,c3,c4⟩ := box_cells hrc
      have HAp := Lib.hid (CA.out W5 (HG.out.keep HX4.out.bl) HX4.out.ip)
      clear hrc CA
      go_wp2_with fail
      with_reducible refine HAp.out.mono ?_
      rintro e w6 ⟨⟨N2,on2,np2,qh2,nh2,ch2,mm2,qk2,nk2,ck2,qc2,nc2,cc2,d2⟩,rfl,hU2,hd2,ha2,hb6⟩
      have HX6 := Lib.hid (HX4.out.keep hb6)
      have HX7 := Lib.hid (RL.next HX4.out hb6 hU2 ha2)
      replace hd2 : d2 = oa.getD d1 := hd2
      have HD2 := Lib.hid hd2
      have HC2 := Lib.hid (hcs (.string N2) (.bool on2) (.bool np2) (.slice qh2 nh2 ch2) (.int .u64 mm2) (.slice qk2 nk2 ck2) (.slice qc2 nc2 cc2))
      have HO2 := Lib.hid (user_one N2 on2 np2 qh2 qk2 qc2 nh2 ch2 nk2 ck2 nc2 cc2 mm2)
      clear hb6 hU2 hd2 ha2 u0 u1 u2 u3 u4 u5 u6 c0 c1 c2 c3 c4 HX4 HAp
      dsimp only [UP.agg]
      simp only [ucs] at HX7
      cases oa with
      | none =>
        have HNn := Lib.hid (HNo.out rfl)
        go_upto_region 9 with (with_reducible refine wpList_store_row rfl 26 (.tmp 2) (.tmp 28) rfl w.heap.size #[.string N2,.bool on2,.bool np2,.slice qh2 nh2 ch2,.int .u64 mm2,.slice qk2 nk2 ck2,.slice qc2 nc2 cc2] rfl rfl 26 _ HX6.out.bx HC2.out rfl HO2.out ?_)
        generalize w6.setRow w.heap.size _ = W7 at HX7 ⊢
        obtain ⟨u0,u1,u2,u3,u4,u5,u6⟩ := u_cells HX7.out.bx
        go_wp2_with (with_reducible refine wpList_store_row rfl 26 (.tmp 4) (.tmp 32) rfl (w.heap.size + 1) #[.string N2,.bool on2,.bool np2,.slice qh2 nh2 ch2,.int .u64 mm2,.slice qk2 nk2 ck2,.slice qc2 nc2 cc2] rfl rfl 26 _ HX7.out.bz HC2.out rfl HO2.out ?_)
        exact bodyPost_ret (results_cell_slot rfl _ _ (w.heap.size + 1) 26 #[.string N2,.bool on2,.bool np2,.slice qh2 nh2 ch2,.int .u64 mm2,.slice qk2 nk2 ck2,.slice qc2 nc2 cc2] (0,0) _ (.bool false) rfl (setRow_heap _ (w.heap.size + 1) _ _ _ _ HX7.out.bz) Tryz.underlying26 rfl HC2.out rfl) rfl (RL.fin HX7.out (foldL d L) (fun v h => by rw [HNn.out] at h; cases h) false (by rw [HNn.out]; rfl))
      | some v =>
        have HNs := Lib.hid (show foldL d (L.take (k + 1)) = some d2 from by rw [HNx.out,HD2.out]; rfl)
        have HFs := Lib.hid (show d2.hs.length ≤ 64 ∧ d2.ks.length ≤ 64 ∧ d2.cs.length ≤ 64 from by rw [HD2.out]; exact HFw.out v rfl)
        go_upto_region 10 with (with_reducible refine wpList_store_row rfl 26 (.tmp 2) (.tmp 28) rfl w.heap.size #[.string N2,.bool on2,.bool np2,.slice qh2 nh2 ch2,.int .u64 mm2,.slice qk2 nk2 ck2,.slice qc2 nc2 cc2] rfl rfl 26 _ HX6.out.bx HC2.out rfl HO2.out ?_)
        generalize w6.setRow w.heap.size _ = W7 at HX7 ⊢
        clear HX6 HNx HNo HFw HD2
        go_wp2_with fail
        go_roundw
        case rel => exact ⟨k + 1,N2,on2,np2,qh2,nh2,ch2,mm2,qk2,nk2,ck2,qc2,nc2,cc2,d2,by omega,by go_num,HX7,HNs,HFs⟩
        case measure => simp [intOf]; omega
  · have d0 : decide ((k : Int) < (n : Int)) = false := decide_eq_false (by omega)
    have hall : L.take k = L := List.take_of_length_le (by rw [HN.out]; omega)
    have hF := HF.out
    rw [hall] at hF
    have HFa := Lib.hid hF
    clear hF hall HF
    obtain ⟨u0,u1,u2,u3,u4,u5,u6⟩ := u_cells HX.out.bx
    go_wp2_with (with_reducible refine wpList_store_row rfl 26 (.tmp 4) (.tmp 34) rfl (w.heap.size + 1) #[.string N1,.bool on1,.bool np1,.slice qh1 nh1 ch1,.int .u64 mm1,.slice qk1 nk1 ck1,.slice qc1 nc1 cc1] rfl rfl 26 _ HX.out.bz HCs.out rfl HOn.out ?_)
    exact bodyPost_ret (results_cell_slot rfl _ _ (w.heap.size + 1) 26 #[.string N1,.bool on1,.bool np1,.slice qh1 nh1 ch1,.int .u64 mm1,.slice qk1 nk1 ck1,.slice qc1 nc1 cc1] (0,0) _ (.bool true) rfl (setRow_heap _ (w.heap.size + 1) _ _ _ _ HX.out.bz) Tryz.underlying26 rfl HCs.out rfl) rfl (RL.fin HX.out (foldL d L) (fun v h => by rw [HFa.out] at h; exact Option.some.inj h) true (by rw [HFa.out]; rfl))
end Go.Proofs.YtpoinibckmbfcaaGreatDoor.UserM
namespace Go.Proofs.YtpoinibckmbfcaaGreatDoor.UserM
open Go.RowKit Kit StrT RowG RuleT UserT UserR TableMath Low ValT RefUser
open Go.Sort (grow)
set_option linter.unusedVariables false
set_option maxRecDepth 100000
theorem ent_x (args : Array Value) (W : World) : (callFunc 58 args).run Tryz.prog W = .ok (.enter 58 args) W := by kernel_rfl
theorem ent_c (X P : ByteArray) (g : Nat) (W : World) (hg : Gu W) (hX : X.size ≤ 1048576) (hP : P.size ≤ 1048576) (h : W.cell? ⟨g,0,none⟩ = some (.string P)) :
  Calls Tryz.prog 58 #[.string X,.pointer (some ⟨g,0,none⟩)] W fun e w' => e = .returned (.bool (MacM.checkB X.data.toList P.data.toList)) ∧ Below W.heap.size W w' := by
 have C := Lib.hid (MacT.check_any X P W hX (by omega) hg.all)
 generalize MacM.checkB X.data.toList P.data.toList = B at C ⊢
 clear hg
 go_enter Tryz.func58,Tryz.ntmps58
 go_wp2_with fail
 with_reducible refine C.out.mono ?_
 rintro e w1 ⟨rfl,hb⟩
 go_wp2_with fail
 go_ret
 exact ⟨rfl,hb⟩
theorem str_box (w : World) (u : Array Value) (P : ByteArray) : ((w.alloc (.cells u 26)).alloc (.cells #[.string P] 9)).heap[w.heap.size + 1]? = some (.cells #[.string P] 9 (0,0)) := by
 have := heap_alloc_last (w.alloc (.cells u 26)) (.cells #[.string P] 9)
 simpa using this
theorem rec_150 {l : List UInt8} (h : MacM.rightB l = true) : l.length ≤ 150 := by
 unfold MacM.rightB at h
 rcases ho : MacM.recOf l with _ | ⟨r,salt,d⟩
 · rw [ho] at h
   cases h
 · rcases h3 : MacM.three l with _ | ⟨a,b,c⟩
   · rw [MacM.recOf_no h3] at ho
     cases ho
   · rw [MacM.recOf_three h3] at ho
     obtain ⟨pa,ub,uc,h1,h2,h4,h5⟩ := MacM.recOf3_inv ho
     have e1 := MacT.three_size h3
     have e2 := NumMath.parse_some pa
     have e3 := NumMath.itoa_len r e2.2.1 e2.2.2
     have e4 := HexMath.hex_unhex _ _ ub
     have e5 := HexMath.hex_unhex _ _ uc
     have e6 := HexMath.hexL_length salt
     have e7 := HexMath.hexL_length d
     rw [e2.1] at e3
     rw [e4] at e6
     rw [e5] at e7
     omega
theorem rec_short {l : List UInt8} (h : MacM.rightB l = true) : l.length ≤ 1048576 := Nat.le_trans (rec_150 h) (by decide)
set_option maxHeartbeats 4000000 in
theorem enter_c (p : UP) (P : ByteArray) (w : World) (hg : Gu w) (hU : UIn w p) (hr : RightU p.d) (hz : P.size ≤ 1048576) :
  Calls Tryz.prog 19 #[p.agg,.string P] w fun e w' => e = .returned (.bool (enterD p.d P.data.toList)) ∧ Below w.heap.size w w' := by
 obtain ⟨N,on,np,qh,nh,ch,mm,qk,nk,ck,qc,nc,cc,d⟩ := p
 have b1 := Kit.below1 w (.cells #[.string N,.bool on,.bool np,.slice qh nh ch,.int .u64 mm,.slice qk nk ck,.slice qc nc cc] 26)
 have b2 := b1.alloc b1.size (.cells #[.string P] 9)
 have hx : (((w.alloc (.cells #[.string N,.bool on,.bool np,.slice qh nh ch,.int .u64 mm,.slice qk nk ck,.slice qc nc cc] 26)).alloc (.cells #[.string P] 9)).heap[w.heap.size]?) = some (.cells #[.string N,.bool on,.bool np,.slice qh nh ch,.int .u64 mm,.slice qk nk ck,.slice qc nc cc] 26 (0,0)) := by
  rw [(Kit.below1 _ _).block _ (by simp)]
  exact heap_alloc_last w _
 have hy := str_box w #[.string N,.bool on,.bool np,.slice qh nh ch,.int .u64 mm,.slice qk nk ck,.slice qc nc cc] P
 generalize hW : (w.alloc (.cells #[.string N,.bool on,.bool np,.slice qh nh ch,.int .u64 mm,.slice qk nk ck,.slice qc nc cc] 26)).alloc (.cells #[.string P] 9) = W2 at b2 hx hy
 have HW := Lib.hid hW
 have hon : on = d.on := hU.eo
 have hnp : np = d.np := hU.ep
 have hcell : W2.cell? ⟨w.heap.size + 1,0,none⟩ = some (.string P) := by rw [cell_of_row _ _ _ _ _ _ hy]; rfl
 have hlt : w.heap.size + 1 < W2.heap.size := (Array.getElem?_eq_some_iff.1 hy).1
 have CF := Lib.hid (hasf_s 58 ent_x #[.pointer (some ⟨w.heap.size + 1,0,none⟩)] (fun h => MacM.checkB h P.data.toList) qh d.hs nh ch W2 (hU.h.keep b2) (fun W hW2 X hX => ent_c X P (w.heap.size + 1) W ((hg.keep b2).keep hW2) (by
  have h1 : X.data.toList.length = X.size := by simp
  have := rec_short (hr.hr _ hX)
  omega) hz (by rw [hW2.cell (p := ⟨w.heap.size + 1,0,none⟩) hlt]; exact hcell)))
 have hen : enterD d P.data.toList = (on && (np || d.hs.any (fun h => MacM.checkB h P.data.toList))) := by rw [hon,hnp]; rfl
 show Calls Tryz.prog 19 #[.agg #[.string N,.bool on,.bool np,.slice qh nh ch,.int .u64 mm,.slice qk nk ck,.slice qc nc cc],.string P] w fun e w' => e = .returned (.bool (enterD d P.data.toList)) ∧ Below w.heap.size w w'
 rw [hen]
 generalize d.hs.any (fun h => MacM.checkB h P.data.toList) = B at CF ⊢
 obtain ⟨u0,u1,u2,u3,u4,u5,u6⟩ := u_cells hx
 have HB := Lib.hid b2
 clear hen hon hnp b1 b2 hx hy hW hU hr hg hcell hlt
 cases on
 · go_enter Tryz.func19,Tryz.ntmps19
   go_upto_region 1 with fail
   rw [HW.out]
   go_wp2_with fail
   go_ret
   exact ⟨rfl,HB.out⟩
 · cases np
   · cases B
     all_goals
      go_enter Tryz.func19,Tryz.ntmps19
      go_upto_region 1 with fail
      rw [HW.out]
      go_wp2_with fail
      with_reducible refine CF.out.mono ?_
      rintro e w3 ⟨rfl,hb3⟩
      go_wp2_with fail
      go_ret
      exact ⟨rfl,HB.out.trans (hb3.mono HB.out.size)⟩
   · go_enter Tryz.func19,Tryz.ntmps19
     go_upto_region 1 with fail
     rw [HW.out]
     go_wp2_with fail
     go_ret
     exact ⟨rfl,HB.out⟩
end Go.Proofs.YtpoinibckmbfcaaGreatDoor.UserM
namespace Go.Proofs.YtpoinibckmbfcaaGreatDoor.UserM
open Go.RowKit Kit StrT RowG RuleT UserT UserR TableMath Low ValT RefUser
open Go.Sort (grow)
set_option linter.unusedVariables false
set_option maxRecDepth 100000
theorem made_s (n : Nat) (hn : n ≤ 1048576) : ∃ Z : Array Value,(∀ W,(Instr.makeSlice 22 (.int .i64 0) (.int .i64 (n : Int))).run Tryz.prog W = .ok (.slice (some ⟨W.heap.size,0,none⟩) 0 n) (W.alloc (.cells Z 9))) ∧ ∀ w : World,OwnR strE w.heap.size (w.alloc (.cells Z 9)) (.slice (some ⟨w.heap.size,0,none⟩) 0 n) [] := by
 obtain ⟨i0,hi0,hz0,hz1,hzb⟩ := info_parts strE.info
 refine ⟨madeCells strE.zero.cells (n * i0.size),fun W => ?_,fun w => ?_⟩
 · have h := run_make (P := Tryz.prog) W 22 strE.ty i0 strE.zero strE.und hi0 hz0 .i64 .i64 0 (n : Int) (by omega) (by omega) (by
    rw [hzb,show strE.bytes = 16 from rfl]
    omega) (by omega)
   rw [show ((n : Int)).toNat = n by omega,show (0 : Int).toNat = 0 from rfl] at h
   exact h
 · exact World.ownsRow_made (e := strE.ty) (size := strE.sz) w _ n (Nat.le_refl _) (by unfold maxLen; omega) (by rw [size_madeCells,hz1])
set_option maxHeartbeats 2000000 in
theorem each_s (fu : FuncId) (hE : ∀ (args : Array Value) (W : World),(callFunc fu args).run Tryz.prog W = .ok (.enter fu args) W) (f : List UInt8 → List UInt8) (q : Option Addr) (L : List (List UInt8)) (n c : Nat) (w : World) (h : RowIn strE w q n c L)
    (hF : ∀ W,Below w.heap.size w W → ∀ (x : List UInt8) (X : ByteArray),x ∈ L → X.data.toList = x → Calls Tryz.prog fu #[.string X] W fun e w' => e = .returned (.string ⟨(f x).toArray⟩) ∧ Below W.heap.size W w') :
    Calls Tryz.prog 49 #[.slice q n c,.func (.func fu) #[] #[]] w fun e w' => ∃ q' c',e = .returned (.slice q' n c') ∧ OwnR strE w.heap.size w' (.slice q' n c') (L.map f) ∧ Below w.heap.size w w' := by
  have HR := Lib.hid h
  have HN := Lib.hid h.l
  have HFl := Lib.hid h.f
  have hf : n ≤ 1048576 := h.f
  have HF := Lib.hid hF
  obtain ⟨Z,mk,hO⟩ := made_s n h.f
  have HO0 := Lib.hid (hO w)
  have HB0 := Lib.hid (Kit.below1 w (.cells Z 9))
  clear h hF hO
  go_enter Tryz.func49,Tryz.ntmps49
  go_wp2_with fail
  go_loopw [5,13] (fun v i wr => ∃ k : Nat,k ≤ n ∧ i = .int .i64 k ∧ Hid (OwnR strE w.heap.size wr v ((L.take k).map f)) ∧ Hid (Below w.heap.size w wr)) (fun _ i _ => n - (intOf i).toNat)
  case atStart => exact ⟨0,Nat.zero_le _,rfl,HO0,HB0⟩
  case round =>
   clear HO0 HB0 mk
   obtain ⟨k,hk,rfl,HO,HB⟩ := hrel
   by_cases hlt : k < n
   · have d1 : decide ((k : Int) < (n : Int)) = true := decide_eq_true (by omega)
     have hkl : k < L.length := by rw [HN.out]; exact hlt
     have k0 : (0 : Int) ≤ (k : Int) := by omega
     have k1 : (k : Int) < (n : Int) := by omega
     obtain ⟨b,off,rfl,hbl,hc⟩ := (rs_ss.1 (HR.out.r.keep HB.out)) (by omega)
     have v0 := hc k hkl
     obtain ⟨X,hX⟩ : ∃ X : ByteArray,X = ⟨L[k].toArray⟩ := ⟨_,rfl⟩
     rw [← hX] at v0
     have hXd : X.data.toList = L[k] := by rw [hX]
     have CF := HF.out wr HB.out L[k] X (List.getElem_mem hkl) hXd
     have hst : (L.take (k + 1)).map f = (L.take k).map f ++ [f L[k]] := by rw [List.take_succ_eq_append_getElem hkl,List.map_append]; rfl
     obtain ⟨Y,hY,hY2⟩ := str_s (f L[k])
     rw [hY2] at CF
     have HC := Lib.hid CF
     have HSt := Lib.hid hst
     have HNw := Lib.hid (fun (W : World) => rec_new strE W W.heap.size (f L[k]) #[.string Y] (by rw [← hY2]; rfl) rfl)
     have hol : ((L.take k).map f).length ≤ 1048576 := by rw [List.length_map,List.length_take]; have := HFl.out; omega
     skip
     clear CF hY hY2 hst hX hXd hc hbl
     go_wp2_with fail
     with_reducible refine HC.out.mono ?_
     rintro e w4 ⟨rfl,hb4⟩
     have HO1 := Lib.hid ((HO.out.keep hb4).keep (show Below w4.heap.size w4 (w4.alloc (.cells #[.string Y] strE.ty)) from Kit.below1 _ _))
     have HB4 := Lib.hid (HB.out.trans (hb4.mono HB.out.size))
     have HBa := Lib.hid (HB4.out.alloc HB4.out.size (.cells #[.string Y] strE.ty))
     clear hb4 HO HB HB4 HC
     go_wp2_with (at_builtin; refine wpList_append_r strE (w0 := w) rfl (.tmp 17) (.tmp 21) rfl _ _ rfl HO1.out HBa.out w4.heap.size _ 1 rfl (HNw.out w4) hol ?_; intro v' w5 hown1 hb5)
     go_roundw
     case rel => exact ⟨k + 1,by omega,by go_num,Lib.hid (by rw [HSt.out]; exact hown1),Lib.hid hb5⟩
     case measure => simp [intOf]; omega
   · have d1 : decide ((k : Int) < (n : Int)) = false := decide_eq_false (by omega)
     have hall : L.take k = L := List.take_of_length_le (by rw [HN.out]; omega)
     have hO2 := HO.out
     rw [hall] at hO2
     have hnl : (L.map f).length = n := by rw [List.length_map,HN.out]
     obtain ⟨q',c',hv,-⟩ := OwnR.ans hO2
     rw [hnl] at hv
     subst hv
     have HA := Lib.hid hO2
     clear hO2 HO hnl hall
     go_wp2_with fail
     go_ret
     exact ⟨q',c',rfl,HA.out,HB.out⟩
set_option maxHeartbeats 2000000 in
theorem each_g (fu : FuncId) (hE : ∀ (args : Array Value) (W : World),(callFunc fu args).run Tryz.prog W = .ok (.enter fu args) W) (f : KG → List UInt8) (q : Option Addr) (L : List (KG)) (n c : Nat) (w : World) (h : RowIn glE w q n c L)
    (hF : ∀ W,Below w.heap.size w W → ∀ (x : KG) (X : ByteArray),x ∈ L → X.data.toList = x.pat → Calls Tryz.prog fu #[.agg #[.string X,.bool x.r,.bool x.w]] W fun e w' => e = .returned (.string ⟨(f x).toArray⟩) ∧ Below W.heap.size W w') :
    Calls Tryz.prog 51 #[.slice q n c,.func (.func fu) #[] #[]] w fun e w' => ∃ q' c',e = .returned (.slice q' n c') ∧ OwnR strE w.heap.size w' (.slice q' n c') (L.map f) ∧ Below w.heap.size w w' := by
  have HR := Lib.hid h
  have HN := Lib.hid h.l
  have HFl := Lib.hid h.f
  have hf : n ≤ 1048576 := h.f
  have HF := Lib.hid hF
  obtain ⟨Z,mk,hO⟩ := made_s n h.f
  have HO0 := Lib.hid (hO w)
  have HB0 := Lib.hid (Kit.below1 w (.cells Z 9))
  clear h hF hO
  go_enter Tryz.func51,Tryz.ntmps51
  go_wp2_with fail
  go_loopw [5,13] (fun v i wr => ∃ k : Nat,k ≤ n ∧ i = .int .i64 k ∧ Hid (OwnR strE w.heap.size wr v ((L.take k).map f)) ∧ Hid (Below w.heap.size w wr)) (fun _ i _ => n - (intOf i).toNat)
  case atStart => exact ⟨0,Nat.zero_le _,rfl,HO0,HB0⟩
  case round =>
   clear HO0 HB0 mk
   obtain ⟨k,hk,rfl,HO,HB⟩ := hrel
   by_cases hlt : k < n
   · have d1 : decide ((k : Int) < (n : Int)) = true := decide_eq_true (by omega)
     have hkl : k < L.length := by rw [HN.out]; exact hlt
     have k0 : (0 : Int) ≤ (k : Int) := by omega
     have k1 : (k : Int) < (n : Int) := by omega
     obtain ⟨b,off,rfl,hbl,v0,v1,v2⟩ := glob_cells (HR.out.r.keep HB.out) k hkl
     obtain ⟨X,hX⟩ : ∃ X : ByteArray,X = ⟨L[k].pat.toArray⟩ := ⟨_,rfl⟩
     rw [← hX] at v0
     have hXd : X.data.toList = L[k].pat := by rw [hX]
     have CF := HF.out (wr.alloc (.cells #[.string X,.bool L[k].r,.bool L[k].w] 55)) (HB.out.alloc HB.out.size _) L[k] X (List.getElem_mem hkl) hXd
     have HB1 := Lib.hid (Kit.below1 wr (.cells #[.string X,.bool L[k].r,.bool L[k].w] 55))
     have hst : (L.take (k + 1)).map f = (L.take k).map f ++ [f L[k]] := by rw [List.take_succ_eq_append_getElem hkl,List.map_append]; rfl
     obtain ⟨Y,hY,hY2⟩ := str_s (f L[k])
     rw [hY2] at CF
     have HC := Lib.hid CF
     have HSt := Lib.hid hst
     have HNw := Lib.hid (fun (W : World) => rec_new strE W W.heap.size (f L[k]) #[.string Y] (by rw [← hY2]; rfl) rfl)
     have hol : ((L.take k).map f).length ≤ 1048576 := by rw [List.length_map,List.length_take]; have := HFl.out; omega
     generalize L[k].r = xr at v1 HC HB1
     generalize L[k].w = xw at v2 HC HB1
     clear CF hY hY2 hst hX hXd hbl
     go_wp2_with fail
     with_reducible refine HC.out.mono ?_
     rintro e w4 ⟨rfl,hb5⟩
     have hb4 : Below wr.heap.size wr w4 := HB1.out.trans (hb5.mono HB1.out.size)
     clear hb5
     have HO1 := Lib.hid ((HO.out.keep hb4).keep (show Below w4.heap.size w4 (w4.alloc (.cells #[.string Y] strE.ty)) from Kit.below1 _ _))
     have HB4 := Lib.hid (HB.out.trans (hb4.mono HB.out.size))
     have HBa := Lib.hid (HB4.out.alloc HB4.out.size (.cells #[.string Y] strE.ty))
     clear hb4 HO HB HB4 HC HB1
     go_wp2_with (at_builtin; refine wpList_append_r strE (w0 := w) rfl (.tmp 17) (.tmp 21) rfl _ _ rfl HO1.out HBa.out w4.heap.size _ 1 rfl (HNw.out w4) hol ?_; intro v' w5 hown1 hb5)
     go_roundw
     case rel => exact ⟨k + 1,by omega,by go_num,Lib.hid (by rw [HSt.out]; exact hown1),Lib.hid hb5⟩
     case measure => simp [intOf]; omega
   · have d1 : decide ((k : Int) < (n : Int)) = false := decide_eq_false (by omega)
     have hall : L.take k = L := List.take_of_length_le (by rw [HN.out]; omega)
     have hO2 := HO.out
     rw [hall] at hO2
     have hnl : (L.map f).length = n := by rw [List.length_map,HN.out]
     obtain ⟨q',c',hv,-⟩ := OwnR.ans hO2
     rw [hnl] at hv
     subst hv
     have HA := Lib.hid hO2
     clear hO2 HO hnl hall
     go_wp2_with fail
     go_ret
     exact ⟨q',c',rfl,HA.out,HB.out⟩
theorem hash_x (args : Array Value) (W : World) : (callFunc 50 args).run Tryz.prog W = .ok (.enter 50 args) W := by kernel_rfl
theorem hash_c (X : ByteArray) (W : World) (hz : X.size ≤ 1048576) : Calls Tryz.prog 50 #[.string X] W fun e w' => e = .returned (.string ⟨(35 :: X.data.toList).toArray⟩) ∧ Below W.heap.size W w' := by
 obtain ⟨V,hV,hV2⟩ := str_s (35 :: X.data.toList)
 rw [hV2]
 have a0 := add_l ⟨#[35]⟩ X V (by omega) (by decide) hV
 clear hV hV2
 go_enter Tryz.func50,Tryz.ntmps50
 go_wp2_with fail
 go_ret
 exact ⟨rfl,Below.refl _ _⟩
theorem amp_x (args : Array Value) (W : World) : (callFunc 53 args).run Tryz.prog W = .ok (.enter 53 args) W := by kernel_rfl
theorem amp_c (X : ByteArray) (W : World) (hz : X.size ≤ 1048576) : Calls Tryz.prog 53 #[.string X] W fun e w' => e = .returned (.string ⟨(38 :: X.data.toList).toArray⟩) ∧ Below W.heap.size W w' := by
 obtain ⟨V,hV,hV2⟩ := str_s (38 :: X.data.toList)
 rw [hV2]
 have a0 := add_l ⟨#[38]⟩ X V (by omega) (by decide) hV
 clear hV hV2
 go_enter Tryz.func53,Tryz.ntmps53
 go_wp2_with fail
 go_ret
 exact ⟨rfl,Below.refl _ _⟩
theorem keyw_x (args : Array Value) (W : World) : (callFunc 52 args).run Tryz.prog W = .ok (.enter 52 args) W := by kernel_rfl
theorem keysWd_mark (g : KG) (h : (g.r || g.w) = true) : keysWd g.pat g.r g.w = markL g ++ g.pat := by
 obtain ⟨p,r,w⟩ := g
 cases r <;> cases w
 · cases h
 · rfl
 · rfl
 · rfl
end Go.Proofs.YtpoinibckmbfcaaGreatDoor.UserM
namespace Go.Proofs.YtpoinibckmbfcaaGreatDoor.UserM
open Go.RowKit Kit StrT RowG RuleT UserT UserR TableMath Low ValT RefUser
open Go.Sort (grow)
set_option linter.unusedVariables false
set_option maxRecDepth 100000
theorem join_w : ∀ L : List (List UInt8),Lib.join L [32] = joinW L
  | [] => rfl
  | [a] => Lib.join_one a [32]
  | a :: b :: t => by
    rw [Lib.join_cons,joinW,← join_w (b :: t),Lib.join_cons]
    simp [Lib.joinTail]
theorem strs_data (L : List (List UInt8)) : (L.map fun l => (⟨l.toArray⟩ : ByteArray)).map (·.data.toList) = L := by
 rw [List.map_map]
 exact (List.map_congr_left (fun l _ => rfl)).trans (List.map_id _)
theorem join_told (q : Option Addr) (L : List (List UInt8)) (n c : Nat) (w : World) (h : RowIn strE w q n c L) (hz : (joinW L).length ≤ 140737488355328) :
  Calls Tryz.prog 55 #[.slice q n c,.string ⟨#[32]⟩] w fun e w' => e = .returned (.string ⟨(joinW L).toArray⟩) ∧ Below w.heap.size w w' := by
 rcases Nat.eq_zero_or_pos n with h0 | h0
 · subst h0
   obtain rfl : L = [] := List.length_eq_zero_iff.1 h.l
   refine (Tryz.strings_Join_none q c ⟨#[32]⟩ w).mono ?_
   rintro e w' ⟨rfl,rfl⟩
   exact ⟨rfl,Below.refl _ _⟩
 · obtain ⟨b,off,rfl,hlt,hc⟩ := rs_ss.1 h.r (by rw [h.l]; exact h0)
   have hf := h.f
   have hl : (L.map fun l => (⟨l.toArray⟩ : ByteArray)).length = n := by rw [List.length_map,h.l]
   have hJ := Tryz.strings_Join b off c (L.map fun l => (⟨l.toArray⟩ : ByteArray)) ⟨#[32]⟩ w (fun j x hx => by
    have hj : j < L.length := by
     rcases Nat.lt_or_ge j L.length with h' | h'
     · exact h'
     · rw [List.getElem?_eq_none (by simpa using h')] at hx; cases hx
    rw [List.getElem?_map,List.getElem?_eq_getElem hj] at hx
    injection hx with hx
    subst hx
    exact hc j hj) hlt (by omega) (by rw [hl]; exact h.b) (by
    rw [strs_data,show (⟨#[32]⟩ : ByteArray).data.toList = [32] from rfl,join_w]
    omega)
   rw [strs_data,show (⟨#[32]⟩ : ByteArray).data.toList = [32] from rfl,join_w,hl] at hJ
   exact hJ
theorem index_bl : ∀ l : List UInt8,((32 : UInt8) ∉ l ∧ Lib.indexByte l 32 = -1) ∨ ∃ a r,l = a ++ 32 :: r ∧ (32 : UInt8) ∉ a ∧ Lib.indexByte l 32 = (a.length : Int)
  | [] => Or.inl ⟨by simp,rfl⟩
  | c :: t => by
    by_cases hc : c = 32
    · subst hc
      exact Or.inr ⟨[],t,rfl,by simp,by simp [Lib.indexByte]⟩
    · have hb : (c == 32) = false := beq_eq_false_iff_ne.2 hc
      rcases index_bl t with ⟨h1,h2⟩ | ⟨a,r,rfl,h1,h2⟩
      · refine Or.inl ⟨by simp [h1,Ne.symm hc],?_⟩
        unfold Lib.indexByte
        rw [hb,h2]
        rfl
      · refine Or.inr ⟨c :: a,r,rfl,by simp [h1,Ne.symm hc],?_⟩
        unfold Lib.indexByte
        rw [hb,h2]
        have : ((a.length : Int) == -1) = false := beq_eq_false_iff_ne.2 (by omega)
        simp only [this,List.length_cons]
        simp
theorem splitK_w : ∀ (k : Nat) (l : List UInt8),l.count 32 = k → Lib.splitK [32] 0 k l = splitW l
  | 0,l,h => by
    rw [split_last l (List.count_eq_zero.1 h)]
    rfl
  | k + 1,l,h => by
    rcases index_bl l with ⟨h1,h2⟩ | ⟨a,r,rfl,h1,h2⟩
    · rw [List.count_eq_zero.2 h1] at h
      cases h
    · have hk : r.count 32 = k := by
       rw [List.count_append,List.count_cons_self,List.count_eq_zero.2 h1] at h
       omega
      have hi : Lib.index (a ++ 32 :: r) [32] = (a.length : Int) := by rw [Lib.index_one]; exact h2
      rw [split_word a r h1,← splitK_w k r hk,Lib.splitK,hi]
      have h3 : ¬ (((a.length : Int) == -1) = true) := by
       rw [beq_iff_eq]; omega
      rw [if_neg h3,Int.toNat_natCast,Nat.add_zero]
      have e1 : (a ++ 32 :: r).take a.length = a := by simp
      have e2 : (a ++ 32 :: r).drop (a.length + [(32 : UInt8)].length) = r := by simp
      rw [e1,e2]
theorem split_len (l : List UInt8) : (splitW l).length ≤ l.length + 1 := by
 induction l with
 | nil => simp [splitW]
 | cons c r ih =>
   by_cases hc : c = 32
   · rw [splitW,if_pos hc]
     simp only [List.length_cons]
     omega
   · rcases hs : splitW r with _ | ⟨h,t⟩
     · exact absurd hs (split_ne r)
     · rw [split_cons hc hs]
       rw [hs] at ih
       simp only [List.length_cons] at ih ⊢
       omega
theorem split_told (T : ByteArray) (w : World) (hz : T.size ≤ 65536) (hm : MacT.Mx w) :
  Calls Tryz.prog 30 #[.string T,.string ⟨#[32]⟩] w (AnsRow strE (splitW T.data.toList) w) := by
 obtain ⟨m,hm⟩ := hm
 have hk : Lib.countB T ⟨#[32]⟩ = T.data.toList.count 32 := Lib.count_one 32 _
 have hB : (Lib.splitB ⟨#[32]⟩ 0 (Lib.countB T ⟨#[32]⟩) T).map (·.data.toList) = splitW T.data.toList := by
  rw [Lib.splitB_data,hk,show (⟨#[32]⟩ : ByteArray).data.toList = [32] from rfl]
  exact splitK_w _ _ rfl
 have hn := Lib.splitB_all ⟨#[32]⟩ (by decide) 0 _ T rfl
 have hl : (splitW T.data.toList).length = Lib.countB T ⟨#[32]⟩ + 1 := by rw [← hB,List.length_map,hn]
 have hl2 := split_len T.data.toList
 have hTl : T.data.toList.length = T.size := by simp
 refine (Tryz.strings_Split T ⟨#[32]⟩ m w (by omega) hm (by decide)).mono ?_
 rintro e w' ⟨he,hw⟩
 generalize Lib.splitB ⟨#[32]⟩ 0 (Lib.countB T ⟨#[32]⟩) T = B at hB hn hw
 subst hw
 have hlast := heap_alloc_last w (.cells (B.map Value.string).toArray 9)
 have hcb : Lib.countB T ⟨#[32]⟩ ≤ 1048575 := by omega
 refine ⟨some ⟨w.heap.size,0,none⟩,Lib.countB T ⟨#[32]⟩ + 1,by rw [hl]; exact he,⟨rs_ss.2 (fun h0 => ⟨w.heap.size,0,rfl,by simp,fun j hj => ?_⟩),rfl,by omega,by omega,by omega,fun h => by cases h⟩,fun a ha => ?_,Kit.below1 _ _⟩
 · have hjB : j < B.length := by omega
   have e1 : B[j].data.toList = (splitW T.data.toList)[j] := by
    have : (B.map (·.data.toList))[j]'(by rw [List.length_map]; exact hjB) = B[j].data.toList := List.getElem_map _
    rw [← this]
    simp only [hB]
   rw [cell_of_row _ _ _ _ _ _ hlast,Nat.zero_add,List.getElem?_toArray,List.getElem?_map,List.getElem?_eq_getElem hjB,Option.map_some,← e1]
 · injection ha with ha
   subst ha
   exact Nat.le_refl _
end Go.Proofs.YtpoinibckmbfcaaGreatDoor.UserM
namespace Go.Proofs.YtpoinibckmbfcaaGreatDoor.UserM
open Go.RowKit Kit StrT RowG RuleT UserT UserR TableMath Low ValT RefUser
open Go.Sort (grow)
set_option linter.unusedVariables false
set_option maxRecDepth 100000
theorem and_allM {m : Nat} (h : m ≤ allM) : bits .and .u64 (m : Int) 72057594037927935 = (m : Int) := by
 have e : bits .and .u64 (m : Int) 72057594037927935 = ((m &&& 72057594037927935 : Nat) : Int) := u64_and_nat m 72057594037927935 (by unfold allM at h; omega) (by decide)
 rw [e,show (72057594037927935 : Nat) = 2 ^ 56 - 1 from rfl,Nat.and_two_pow_sub_one_eq_mod,Nat.mod_eq_of_lt (lt_allM.1 h)]
theorem bit_is (m k : Nat) (hm : m < 18446744073709551616) : (bits .and .u64 ((m : Int) / 2 ^ k) 1 == 1) = m.testBit k := by
 have e0 : ((m : Int) / 2 ^ k) = ((m / 2 ^ k : Nat) : Int) := by simp
 have hlt : m / 2 ^ k < 18446744073709551616 := Nat.lt_of_le_of_lt (Nat.div_le_self _ _) hm
 have e : bits .and .u64 ((m / 2 ^ k : Nat) : Int) 1 = ((m / 2 ^ k &&& 1 : Nat) : Int) := u64_and_nat _ 1 hlt (by decide)
 rw [e0,e,Nat.testBit,Nat.shiftRight_eq_div_pow,Nat.and_comm]
 rw [Nat.one_and_eq_mod_two]
 have h2 := Nat.mod_lt (m / 2 ^ k) (show 0 < 2 by decide)
 generalize m / 2 ^ k % 2 = x at h2
 have : x = 0 ∨ x = 1 := by omega
 rcases this with rfl | rfl <;> rfl
def idsT (m k : Nat) : List (List UInt8) := [45,64,97,108,108] :: ((List.range k).filter (fun i => m.testBit i)).map (fun i => 43 :: (cmdAt i).name)
theorem idsT_yes {m k : Nat} (h : m.testBit k = true) : idsT m (k + 1) = idsT m k ++ [43 :: (cmdAt k).name] := by
 unfold idsT
 rw [List.range_succ,List.filter_append,List.map_append]
 simp [h]
theorem idsT_no {m k : Nat} (h : m.testBit k = false) : idsT m (k + 1) = idsT m k := by
 unfold idsT
 rw [List.range_succ,List.filter_append,List.map_append]
 simp [h]
theorem idsT_len (m k : Nat) : (idsT m k).length ≤ k + 1 := by
 unfold idsT
 rw [List.length_cons,List.length_map]
 have := List.length_filter_le (fun i => m.testBit i) (List.range k)
 rw [List.length_range] at this
 omega
theorem name_len : (List.range 56).all (fun i => decide ((cmdAt i).name.length ≤ 20)) = true := by decide +kernel
set_option maxHeartbeats 4000000 in
theorem cmdw_any (m : Nat) (hm : m ≤ allM) (w : World) :
  Calls Tryz.prog 54 #[.int .u64 (m : Int)] w (AnsRow strE (cmdsW m) w) := by
 have hm64 : m < 18446744073709551616 := by unfold allM at hm; omega
 have CA := Lib.hid (fun W => all_any W)
 have HE := Lib.hid (and_allM hm)
 by_cases h : m = allM
 · subst h
   have hc : cmdsW allM = [[43,64,97,108,108]] := if_pos rfl
   have d0 : ((72057594037927935 : Int) == 72057594037927935) = true := rfl
   have HA := Lib.hid (show bits .and .u64 72057594037927935 72057594037927935 = (72057594037927935 : Int) from HE.out)
   have hal : ((allM : Nat) : Int) = 72057594037927935 := rfl
   rw [hal,hc]
   have HO := Lib.hid (fun W (hW : Below w.heap.size w W) => ownR_lit strE w.heap.size W (W.alloc (.cells #[.string ⟨#[43,64,97,108,108]⟩] 9)) [[43,64,97,108,108]] #[.string ⟨#[43,64,97,108,108]⟩] W.heap.size 1 rfl rfl rfl rfl hW.size (by decide))
   clear HE hm hm64 hal hc
   go_enter Tryz.func54,Tryz.ntmps54
   go_wp2_with fail
   with_reducible refine (CA.out _).mono ?_
   rintro e w1 ⟨rfl,hb1⟩
   go_wp2_with fail
   with_reducible refine (CA.out _).mono ?_
   rintro e w2 ⟨rfl,hb2⟩
   have hb := hb1.trans (hb2.mono hb1.size)
   have HB := Lib.hid hb
   have a1 := HA.out
   clear hb hb1 hb2
   go_wp2_with fail
   go_ret
   exact ans_row (HO.out _ HB.out) (by decide) (HB.out.alloc HB.out.size _)
 · have hc : cmdsW m = idsT m 56 := if_neg h
   have d0 : ((m : Int) == 72057594037927935) = false := beq_eq_false_iff_ne.2 (by unfold allM at h; omega)
   rw [hc]
   have HO := Lib.hid (fun W (hW : Below w.heap.size w W) => ownR_lit strE w.heap.size W (W.alloc (.cells #[.string ⟨#[45,64,97,108,108]⟩] 9)) (idsT m 0) #[.string ⟨#[45,64,97,108,108]⟩] W.heap.size 1 rfl rfl rfl rfl hW.size (by decide))
   have HM := Lib.hid hm64
   have HL := Lib.hid (fun k => idsT_len m k)
   clear hm hm64 hc h
   go_enter Tryz.func54,Tryz.ntmps54
   go_wp2_with fail
   with_reducible refine (CA.out _).mono ?_
   rintro e w1 ⟨rfl,hb1⟩
   go_wp2_with fail
   with_reducible refine (CA.out _).mono ?_
   rintro e w2 ⟨rfl,hb2⟩
   have hb := hb1.trans (hb2.mono hb1.size)
   have HB := Lib.hid hb
   have a1 := HE.out
   clear hb hb1 hb2 HE
   go_upto_region 4 with fail
   have HO0 := Lib.hid (HO.out _ HB.out)
   have HB0 := Lib.hid (HB.out.alloc HB.out.size (.cells #[.string ⟨#[45,64,97,108,108]⟩] 9))
   generalize hv0 : (Value.slice (some ⟨w2.heap.size,0,none⟩) 1 1) = v0 at HO0 ⊢
   generalize w2.alloc _ = W3 at HO0 HB0 ⊢
   clear HO HB a1 d0 CA hv0
   go_wp2_with fail
   with_reducible refine (TableM.count_any _).mono ?_
   rintro e w3 ⟨rfl,hb3⟩
   have HO3 := Lib.hid (HO0.out.keep hb3)
   have HB3 := Lib.hid (HB0.out.trans (hb3.mono HB0.out.size))
   clear hb3 HO0 HB0
   go_wp2_with fail
   go_loopw [3,15] (fun v i wr => ∃ k : Nat,k ≤ 56 ∧ i = .int .i64 k ∧ Hid (OwnR strE w.heap.size wr v (idsT m k)) ∧ Hid (Below w.heap.size w wr)) (fun _ i _ => 56 - (intOf i).toNat)
   case atStart => exact ⟨0,Nat.zero_le _,rfl,HO3,HB3⟩
   case round =>
    clear HO3 HB3
    obtain ⟨k,hk,rfl,HO,HB⟩ := hrel
    by_cases hlt : k < 56
    · have d1 : decide ((k : Int) < 56) = true := decide_eq_true (by omega)
      have k0 : (0 : Int) ≤ (k : Int) := by omega
      have k1 : (k : Int) ≤ 64 := by omega
      have CT := TableM.at_any (k : Int) wr (by omega) (by omega)
      rw [show atV (k : Int) = cmdAt k from (if_pos ⟨by omega,by omega⟩).trans (by rw [Int.toNat_natCast]),show atB (k : Int) = true from decide_eq_true ⟨by omega,by omega⟩] at CT
      have hnl : (cmdAt k).name.length ≤ 20 := by
       have := List.all_eq_true.1 name_len k (List.mem_range.2 hlt)
       exact of_decide_eq_true this
      have hyes := idsT_yes (m := m) (k := k)
      have hno := idsT_no (m := m) (k := k)
      have hbit := bit_is m k HM.out
      generalize cmdAt k = C at CT hnl hyes
      unfold aggV at CT
      obtain ⟨Y,hY,hY2⟩ := str_s (43 :: C.name)
      obtain ⟨S,hS,hS2⟩ := str_s C.name
      rw [hS2] at CT
      generalize C.ar = r at CT
      generalize (C.ct : Int) = g at CT
      have hSz : S.size ≤ 20 := by
       have : S.data.toList.length = S.size := by simp
       rw [hS] at this
       omega
      have a0 := add_l ⟨#[43]⟩ S Y (by omega) (by decide) (by rw [hY,hS]; rfl)
      have HNw := Lib.hid (fun (W : World) => rec_new strE W W.heap.size (43 :: C.name) #[.string Y] (by rw [← hY2]; rfl) rfl)
      have HC := Lib.hid CT
      have HY := Lib.hid hyes
      have HN := Lib.hid hno
      clear hyes hno CT hY hY2 hS hS2 hnl hSz
      cases ht : m.testBit k with
      | true =>
        rw [ht] at hbit
        go_wp2_with fail
        with_reducible refine HC.out.mono ?_
        rintro e w4 ⟨rfl,hb4⟩
        have HO4 := Lib.hid (HO.out.keep hb4)
        have HB4 := Lib.hid (HB.out.trans (hb4.mono HB.out.size))
        clear hb4 HO HB HC
        go_upto_region 9 with fail
        have c5 : (w4.alloc (.cells #[.string S,.int .i64 r,.int .u16 g] 80)).cell? ⟨w4.heap.size,0,none⟩ = some (.string S) := by rw [cell_of_row _ _ _ _ _ _ (heap_alloc_last w4 _)]; rfl
        have HO5 := Lib.hid (HO4.out.keep (Kit.below1 w4 (.cells #[.string S,.int .i64 r,.int .u16 g] 80)))
        have HB5 := Lib.hid (HB4.out.alloc HB4.out.size (.cells #[.string S,.int .i64 r,.int .u16 g] 80))
        generalize w4.alloc _ = W5 at c5 HO5 HB5 ⊢
        have HO6 := Lib.hid (HO5.out.keep (Kit.below1 W5 (.cells #[.string Y] strE.ty)))
        have HB6 := Lib.hid (HB5.out.alloc HB5.out.size (.cells #[.string Y] strE.ty))
        have hol : (idsT m k).length ≤ 1048576 := by have := HL.out k; omega
        clear HO4 HB4 HO5 HB5 hbit
        go_wp2_with (at_builtin; refine wpList_append_r strE (w0 := w) rfl (.tmp 31) (.tmp 35) rfl _ _ rfl HO6.out HB6.out W5.heap.size _ 1 rfl (HNw.out W5) hol ?_; intro v' w7 hown1 hb7)
        go_roundw
        case rel => exact ⟨k + 1,by omega,by go_num,Lib.hid (by rw [HY.out ht]; exact hown1),Lib.hid hb7⟩
        case measure => simp [intOf]; omega
      | false =>
        rw [ht] at hbit
        go_wp2_with fail
        with_reducible refine HC.out.mono ?_
        rintro e w4 ⟨rfl,hb4⟩
        have HO4 := Lib.hid ((HO.out.keep hb4).keep (Kit.below1 w4 (.cells #[.string S,.int .i64 r,.int .u16 g] 80)))
        have HB4 := HB.out.trans (hb4.mono HB.out.size)
        have HB5 := Lib.hid (HB4.alloc HB4.size (.cells #[.string S,.int .i64 r,.int .u16 g] 80))
        clear hb4 HO HB HC HB4
        go_wp2_with fail
        go_roundw
        case rel => exact ⟨k + 1,by omega,by go_num,Lib.hid (by rw [HN.out ht]; exact HO4.out),HB5⟩
        case measure => simp [intOf]; omega
    · have d1 : decide ((k : Int) < 56) = false := decide_eq_false (by omega)
      obtain rfl : k = 56 := by omega
      go_wp2_with fail
      go_ret
      exact ans_row HO.out (Nat.le_trans (HL.out 56) (by decide)) HB.out
end Go.Proofs.YtpoinibckmbfcaaGreatDoor.UserM
