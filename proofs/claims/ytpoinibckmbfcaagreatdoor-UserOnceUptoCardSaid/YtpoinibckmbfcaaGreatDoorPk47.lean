/-
  Packed by program.
-/
import Derived.Test.YtpoinibckmbfcaaGreatDoorPk10
namespace Go.Proofs.YtpoinibckmbfcaaGreatDoor.UserT
open Go.RowKit Kit TableMath Low RuleT HexMath NumMath
open NumW (wordB okByte)
open MacM (rightB recL recOf)
set_option linter.unusedVariables false
set_option maxRecDepth 100000
def wsum (ws : List (List UInt8)) : Nat := (ws.map fun w => w.length + 1).sum
theorem wsum_app (a b : List (List UInt8)) : wsum (a ++ b) = wsum a + wsum b := by simp [wsum]
theorem wsum_cons (a : List UInt8) (b : List (List UInt8)) : wsum (a :: b) = a.length + 1 + wsum b := by simp [wsum]
theorem wsum_le {ws : List (List UInt8)} {B : Nat} (h : ∀ w ∈ ws,w.length + 1 ≤ B) : wsum ws ≤ ws.length * B := by
 induction ws with
 | nil => exact Nat.zero_le _
 | cons a t ih =>
   rw [wsum_cons,List.length_cons,Nat.succ_mul]
   have h1 := h a (by simp)
   have h2 := ih (fun w hw => h w (by simp [hw]))
   omega
theorem join_len : ∀ ws : List (List UInt8),(joinW ws).length ≤ wsum ws
  | [] => Nat.zero_le _
  | [a] => by rw [wsum_cons]; show a.length ≤ _; omega
  | a :: b :: t => by
    have := join_len (b :: t)
    rw [joinW,wsum_cons,List.length_append,List.length_cons]
    omega
theorem mem_len : ∀ (ws : List (List UInt8)) (w : List UInt8),w ∈ ws → w.length ≤ (joinW ws).length
  | [],w,h => by simp at h
  | [a],w,h => by rw [List.mem_singleton.1 h]; exact Nat.le_refl _
  | a :: b :: t,w,h => by
    rw [joinW,List.length_append,List.length_cons]
    rcases List.mem_cons.1 h with rfl | h
    · omega
    · have := mem_len (b :: t) w h
      omega
structure Sh (B : Nat) (u : UV) : Prop where
 h : ∀ x ∈ u.hs,x.length ≤ B
 k : ∀ g ∈ u.ks,g.pat.length ≤ B
 c : ∀ x ∈ u.cs,x.length ≤ B
theorem sh_new (B : Nat) (n : List UInt8) : Sh B (newU n) := ⟨fun x h => absurd h (by simp [newU]),fun x h => absurd h (by simp [newU]),fun x h => absurd h (by simp [newU])⟩
theorem sh_set {B : Nat} {u : UV} {r : RV} {x : List UInt8} (hu : Sh B u) (hs : r.s.length ≤ B) (hx : r.kind = 5 → x.length ≤ B) (h1 : 1 ≤ r.kind) (h14 : r.kind ≤ 14) : Sh B (setU u r x) := by
 obtain ⟨k,s,a,b,m⟩ := r
 simp only at h1 h14 hs hx
 obtain ⟨hh,hk,hc⟩ := hu
 match k,h1,h14,hx with
 | 1,_,_,_ | 2,_,_,_ => exact ⟨hh,hk,hc⟩
 | 3,_,_,_ | 4,_,_,_ => exact ⟨fun x h => absurd h (by simp [setU]),hk,hc⟩
 | 5,_,_,hx => exact ⟨fun y h => (more_mem h).elim (hh y) (fun e => by rw [e]; exact hx rfl),hk,hc⟩
 | 6,_,_,_ => exact ⟨fun y h => (more_mem h).elim (hh y) (fun e => by rw [e]; exact hs),hk,hc⟩
 | 7,_,_,_ => exact ⟨fun y h => hh y (List.mem_filter.1 h).1,hk,hc⟩
 | 8,_,_,_ | 9,_,_,_ => exact ⟨hh,hk,hc⟩
 | 10,_,_,_ => exact ⟨hh,keys_all u.ks hk (fun g hg _ => hk g hg) hs,hc⟩
 | 11,_,_,_ => exact ⟨hh,fun x h => absurd h (by simp [setU]),hc⟩
 | 12,_,_,_ => exact ⟨hh,hk,fun y h => (more_mem h).elim (hc y) (fun e => by rw [e]; exact hs)⟩
 | 13,_,_,_ => exact ⟨hh,hk,fun x h => absurd h (by simp [setU])⟩
 | 14,_,_,_ => exact sh_new B u.name
theorem hexL_len (l : List UInt8) : (hexL l).length = 2 * l.length := hexL_length l
theorem rec1_len {p x : List UInt8} (h : recD p [] 1 = some x) : x.length ≤ 140 := by
 unfold recD at h
 rw [if_pos (by decide)] at h
 obtain rfl := Option.some.inj h
 unfold MacM.recL
 have h1 : (Lib.itoa 1).length = 1 := by rw [MacT.itoa_1']
 rw [List.length_append,List.length_cons,List.length_append,List.length_cons,hexL_len,hexL_len,MacM.derL_length,h1]
 simp
theorem sh_fit {u : UV} (h : Sh 140 u) (r : RV) : Sh 140 (fitS u r) := by
 unfold fitS
 split
 · rename_i hs
   cases ha : applyD u r (recD r.s [] 1) with
   | none => exact h
   | some v =>
     obtain ⟨hr,-,x,rfl,hx⟩ := apply_inv ha
     exact sh_set h hs (fun e => rec1_len (hx e)) (kind_of hr).1 (kind_of hr).2
 · exact h
theorem sh_fold : ∀ (l : List RV) (u : UV),Sh 140 u → Sh 140 (l.foldl fitS u)
  | [],_,h => h
  | r :: l,u,h => sh_fold l _ (sh_fit h r)
theorem fit_short (name : List UInt8) (l : List RV) : Sh 140 (fitD name l) := sh_fold _ _ (sh_new _ _)
theorem name_len (i : Nat) (h : i < 56) : (cmdAt i).name.length ≤ 20 := by
 have : (List.range 56).all (fun i => decide ((cmdAt i).name.length ≤ 20)) = true := by decide +kernel
 exact of_decide_eq_true (List.all_eq_true.1 this i (List.mem_range.2 h))
theorem cmds_sum (m : Nat) : wsum (cmdsW m) ≤ 2000 := by
 unfold cmdsW
 split
 · decide
 · rw [wsum_cons]
   have h1 : wsum ((idsL m).map fun i => 43 :: (cmdAt i).name) ≤ ((idsL m).map fun i => 43 :: (cmdAt i).name).length * 22 := wsum_le (fun w hw => by
    obtain ⟨i,hi,rfl⟩ := List.mem_map.1 hw
    have := name_len i (ids_lt hi)
    rw [List.length_cons]
    omega)
   have h2 : (idsL m).length ≤ 56 := Nat.le_trans (List.length_filter_le _ _) (by simp)
   rw [List.length_map] at h1
   simp only [List.length_cons,List.length_nil]
   omega
theorem mark_len (g : KG) : (markL g).length ≤ 3 := by
 unfold markL
 split
 · split <;> decide
 · decide
theorem text_len {u : UV} (hr : RightU u) (hs : Sh 140 u) : (textD u).length ≤ 40000 := by
 refine Nat.le_trans (join_len _) ?_
 have hn := hr.nl
 have e1 : wsum (u.hs.map fun h => 35 :: h) ≤ 64 * 142 := by
  refine Nat.le_trans (wsum_le (B := 142) fun w hw => ?_) (Nat.mul_le_mul_right _ (by rw [List.length_map]; exact hr.hl))
  obtain ⟨x,hx,rfl⟩ := List.mem_map.1 hw
  have := hs.h x hx
  rw [List.length_cons]
  omega
 have e2 : wsum (u.ks.map fun g => markL g ++ g.pat) ≤ 64 * 144 := by
  refine Nat.le_trans (wsum_le (B := 144) fun w hw => ?_) (Nat.mul_le_mul_right _ (by rw [List.length_map]; exact hr.kl))
  obtain ⟨x,hx,rfl⟩ := List.mem_map.1 hw
  have := hs.k x hx
  have := mark_len x
  rw [List.length_append]
  omega
 have e3 : wsum (u.cs.map fun c => 38 :: c) ≤ 64 * 142 := by
  refine Nat.le_trans (wsum_le (B := 142) fun w hw => ?_) (Nat.mul_le_mul_right _ (by rw [List.length_map]; exact hr.cl))
  obtain ⟨x,hx,rfl⟩ := List.mem_map.1 hw
  have := hs.c x hx
  rw [List.length_cons]
  omega
 have e4 := cmds_sum u.cmds
 unfold wordsD bodyW
 rw [wsum_cons,wsum_cons,wsum_cons,wsum_app,wsum_app,wsum_app,wsum_app]
 have e5 : (if u.on then ([111,110] : List UInt8) else [111,102,102]).length ≤ 3 := by cases u.on <;> decide
 have e6 : wsum (if u.np then [[110,111,112,97,115,115]] else []) ≤ 7 := by cases u.np <;> decide
 simp only [List.length_cons,List.length_nil]
 omega
theorem sh_text {u : UV} : Sh (textD u).length u := by
 refine ⟨fun x hx => ?_,fun g hg => ?_,fun x hx => ?_⟩
 · have := mem_len (wordsD u) (35 :: x) (by unfold wordsD bodyW; simp [hx])
   rw [List.length_cons] at this
   unfold textD
   omega
 · have := mem_len (wordsD u) (markL g ++ g.pat) (by
    unfold wordsD bodyW
    simp only [List.mem_cons,List.mem_append,List.mem_map]
    exact Or.inr (Or.inr (Or.inr (Or.inr (Or.inr (Or.inl ⟨g,hg,rfl⟩))))))
   rw [List.length_append] at this
   unfold textD
   omega
 · have := mem_len (wordsD u) (38 :: x) (by unfold wordsD bodyW; simp [hx])
   rw [List.length_cons] at this
   unfold textD
   omega
end Go.Proofs.YtpoinibckmbfcaaGreatDoor.UserT
