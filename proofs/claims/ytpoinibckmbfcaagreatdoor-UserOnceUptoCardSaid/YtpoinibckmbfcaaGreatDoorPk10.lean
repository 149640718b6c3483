/-
  Packed by program.
-/
import Derived.Test.YtpoinibckmbfcaaGreatDoorPk09
namespace Go.Proofs.YtpoinibckmbfcaaGreatDoor.UserT
open Go.RowKit Kit TableMath Low RuleT HexMath NumMath
open NumW (wordB okByte)
open MacM (rightB recL recOf recOf3 three cutL)
set_option linter.unusedVariables false
set_option maxRecDepth 100000
theorem apply_inv {u v : UV} {r : RV} {rec : Option (List UInt8)} (h : applyD u r rec = some v) : rightR r = true ∧ fewB v = true ∧ ∃ x,v = setU u r x ∧ (r.kind = 5 → rec = some x) := by
 unfold applyD at h
 split at h
 · rename_i hr
   split at h
   · split at h
     · rename_i x
       split at h
       · rename_i hf
         obtain rfl := Option.some.inj h
         exact ⟨hr,hf,x,rfl,fun _ => rfl⟩
       · cases h
     · cases h
   · rename_i h5
     split at h
     · rename_i hf
       obtain rfl := Option.some.inj h
       exact ⟨hr,hf,[],rfl,fun e => absurd e h5⟩
     · cases h
 · cases h
theorem kind_of {r : RV} (h : rightR r = true) : 1 ≤ r.kind ∧ r.kind ≤ 14 := by
 unfold rightR at h
 split at h
 · omega
 · split at h
   · omega
   · split at h
     · omega
     · split at h
       · omega
       · split at h
         · omega
         · rw [Bool.and_eq_true] at h
           exact of_decide_eq_true h.2
theorem more_mem {l : List (List UInt8)} {s x : List UInt8} (h : x ∈ moreL l s) : x ∈ l ∨ x = s := by
 unfold moreL at h
 split at h
 · exact Or.inl h
 · rcases List.mem_append.1 h with h | h
   · exact Or.inl h
   · exact Or.inr (List.mem_singleton.1 h)
theorem more_nodup {l : List (List UInt8)} (s : List UInt8) (h : l.Nodup) : (moreL l s).Nodup := by
 unfold moreL
 split
 · exact h
 · rename_i hn
   rw [List.nodup_append]
   exact ⟨h,by simp,fun a ha b hb e => hn (by rw [← List.mem_singleton.1 hb,← e]; exact ha)⟩
theorem more_more (l : List (List UInt8)) (s : List UInt8) : moreL (moreL l s) s = moreL l s := by
 have : s ∈ moreL l s := by
  unfold moreL
  split
  · assumption
  · simp
 exact if_pos this
theorem keys_pats : ∀ (l : List KG) (s : List UInt8) (a b : Bool),(keysL l s a b).map (·.pat) = if s ∈ l.map (·.pat) then l.map (·.pat) else l.map (·.pat) ++ [s]
  | [],s,a,b => rfl
  | g :: t,s,a,b => by
    by_cases h : g.pat = s
    · rw [keysL,if_pos h]
      simp [h]
    · have h' : ¬ s = g.pat := fun e => h e.symm
      rw [keysL,if_neg h,List.map_cons,keys_pats t s a b,List.map_cons]
      by_cases h2 : s ∈ t.map (·.pat)
      · rw [if_pos h2,if_pos (List.mem_cons_of_mem _ h2)]
      · rw [if_neg h2,if_neg (by rw [List.mem_cons,not_or]; exact ⟨h',h2⟩)]
        rfl
theorem keys_nodup {l : List KG} (s : List UInt8) (a b : Bool) (h : (l.map (·.pat)).Nodup) : ((keysL l s a b).map (·.pat)).Nodup := by
 rw [keys_pats]
 split
 · exact h
 · rename_i hn
   rw [List.nodup_append]
   exact ⟨h,by simp,fun a ha b hb e => hn (by rw [← List.mem_singleton.1 hb,← e]; exact ha)⟩
theorem keys_all {P : KG → Prop} {s : List UInt8} {a b : Bool} : ∀ (l : List KG),(∀ g ∈ l,P g) → (∀ g ∈ l,g.pat = s → P ⟨g.pat,g.r || a,g.w || b⟩) → P ⟨s,a,b⟩ → ∀ g ∈ keysL l s a b,P g
  | [],_,_,h3,g,hg => by
    rw [keysL,List.mem_singleton] at hg
    rw [hg]
    exact h3
  | x :: t,h1,h2,h3,g,hg => by
    by_cases h : x.pat = s
    · rw [keysL,if_pos h] at hg
      rcases List.mem_cons.1 hg with rfl | hg
      · exact h2 x (by simp) h
      · exact h1 g (by simp [hg])
    · rw [keysL,if_neg h] at hg
      rcases List.mem_cons.1 hg with rfl | hg
      · exact h1 _ (by simp)
      · exact keys_all t (fun g hg => h1 g (by simp [hg])) (fun g hg => h2 g (by simp [hg])) h3 g hg
theorem keys_keys : ∀ (l : List KG) (s : List UInt8) (a b : Bool),keysL (keysL l s a b) s a b = keysL l s a b
  | [],s,a,b => by simp [keysL]
  | g :: t,s,a,b => by
    by_cases h : g.pat = s
    · rw [keysL,if_pos h,keysL,if_pos h]
      simp
    · rw [keysL,if_neg h,keysL,if_neg h,keys_keys t s a b]
theorem cat_le : cats.all (fun c => decide (catV c ≤ allM)) = true := by decide +kernel
theorem named_le {m : Nat} (h : namedB m = true) : m ≤ allM := by
 unfold namedB at h
 rw [Bool.or_eq_true,Bool.or_eq_true] at h
 rcases h with h | h | h
 · exact Nat.le_of_eq (of_decide_eq_true h)
 · obtain ⟨c,hc,e⟩ := List.any_eq_true.1 h
   rw [← of_decide_eq_true e]
   exact of_decide_eq_true (List.all_eq_true.1 cat_le c hc)
 · obtain ⟨i,hi,e⟩ := List.any_eq_true.1 h
   rw [← of_decide_eq_true e]
   have h1 : 2 ^ i ≤ 2 ^ 55 := Nat.pow_le_pow_right (by decide) (by have := List.mem_range.1 hi; omega)
   have h2 : (2 : Nat) ^ 55 ≤ allM := by decide
   exact Nat.le_trans h1 h2
theorem lt_allM {m : Nat} : m ≤ allM ↔ m < 2 ^ 56 := by unfold allM; omega
theorem or_le {a b : Nat} (ha : a ≤ allM) (hb : b ≤ allM) : a ||| b ≤ allM := lt_allM.2 (Nat.or_lt_two_pow (lt_allM.1 ha) (lt_allM.1 hb))
theorem less_le {a b : Nat} (ha : a ≤ allM) : a ^^^ (a &&& b) ≤ allM := lt_allM.2 (Nat.xor_lt_two_pow (lt_allM.1 ha) (Nat.lt_of_le_of_lt Nat.and_le_left (lt_allM.1 ha)))
theorem right_set {u : UV} {r : RV} {x : List UInt8} (hu : RightU u) (hr : rightR r = true) (hf : fewB (setU u r x) = true) (hx : r.kind = 5 → rightB x = true) : RightU (setU u r x) := by
 obtain ⟨h1,h14⟩ := kind_of hr
 obtain ⟨k,s,a,b,m⟩ := r
 simp only at h1 h14 hx
 have hf' := of_decide_eq_true hf
 obtain ⟨nw,nl,kn,kl,kw,ka,cn,cl,cw,hn,hl,hrr,hm⟩ := hu
 match k,h1,h14,hr,hf',hx with
 | 1,_,_,_,_,_ => exact ⟨nw,nl,kn,kl,kw,ka,cn,cl,cw,hn,hl,hrr,hm⟩
 | 2,_,_,_,_,_ => exact ⟨nw,nl,kn,kl,kw,ka,cn,cl,cw,hn,hl,hrr,hm⟩
 | 3,_,_,_,_,_ => exact ⟨nw,nl,kn,kl,kw,ka,cn,cl,cw,List.nodup_nil,Nat.zero_le _,fun h hh => absurd hh (by simp [setU]),hm⟩
 | 4,_,_,_,_,_ => exact ⟨nw,nl,kn,kl,kw,ka,cn,cl,cw,List.nodup_nil,Nat.zero_le _,fun h hh => absurd hh (by simp [setU]),hm⟩
 | 5,_,_,_,hf',hx =>
   refine ⟨nw,nl,kn,kl,kw,ka,cn,cl,cw,more_nodup _ hn,hf'.1,fun h hh => ?_,hm⟩
   rcases more_mem hh with hh | rfl
   · exact hrr h hh
   · exact hx rfl
 | 6,_,_,hr,hf',_ =>
   refine ⟨nw,nl,kn,kl,kw,ka,cn,cl,cw,more_nodup _ hn,hf'.1,fun h hh => ?_,hm⟩
   rcases more_mem hh with hh | rfl
   · exact hrr h hh
   · simp [rightR] at hr
     exact hr.2
 | 7,_,_,_,hf',_ => exact ⟨nw,nl,kn,kl,kw,ka,cn,cl,cw,hn.filter _,hf'.1,fun h hh => hrr h (List.mem_filter.1 hh).1,hm⟩
 | 8,_,_,hr,_,_ =>
   simp [rightR] at hr
   exact ⟨nw,nl,kn,kl,kw,ka,cn,cl,cw,hn,hl,hrr,or_le hm (named_le hr.2)⟩
 | 9,_,_,_,_,_ => exact ⟨nw,nl,kn,kl,kw,ka,cn,cl,cw,hn,hl,hrr,less_le hm⟩
 | 10,_,_,hr,hf',_ =>
   have hw : wordB s = true ∧ (a || b) = true := by
    simp [rightR] at hr
    refine ⟨hr.1.2,?_⟩
    simpa using hr.2
   exact ⟨nw,nl,keys_nodup s a b kn,hf'.2.1,keys_all u.ks kw (fun g hg e => kw g hg) hw.1,keys_all u.ks ka (fun g hg e => by
    have := ka g hg
    show ((g.r || a) || (g.w || b)) = true
    revert this
    cases g.r <;> cases g.w <;> cases a <;> cases b <;> simp) hw.2,cn,cl,cw,hn,hl,hrr,hm⟩
 | 11,_,_,_,_,_ => exact ⟨nw,nl,List.nodup_nil,Nat.zero_le _,fun g hg => absurd hg (by simp [setU]),fun g hg => absurd hg (by simp [setU]),cn,cl,cw,hn,hl,hrr,hm⟩
 | 12,_,_,hr,hf',_ =>
   have hw : wordB s = true := by
    simp [rightR] at hr
    exact hr.2
   refine ⟨nw,nl,kn,kl,kw,ka,more_nodup _ cn,hf'.2.2,fun c hc => ?_,hn,hl,hrr,hm⟩
   rcases more_mem hc with hc | rfl
   · exact cw c hc
   · exact hw
 | 13,_,_,_,_,_ => exact ⟨nw,nl,kn,kl,kw,ka,List.nodup_nil,Nat.zero_le _,fun c hc => absurd hc (by simp [setU]),hn,hl,hrr,hm⟩
 | 14,_,_,_,_,_ => exact ⟨nw,nl,List.nodup_nil,Nat.zero_le _,fun g hg => absurd hg (by simp [setU,newU]),fun g hg => absurd hg (by simp [setU,newU]),List.nodup_nil,Nat.zero_le _,fun c hc => absurd hc (by simp [setU,newU]),List.nodup_nil,Nat.zero_le _,fun h hh => absurd hh (by simp [setU,newU]),Nat.zero_le _⟩
theorem right_new {n : List UInt8} (hw : wordB n = true) (hl : n.length ≤ 32) : RightU (newU n) :=
 ⟨hw,hl,List.nodup_nil,Nat.zero_le _,fun g hg => absurd hg (by simp [newU]),fun g hg => absurd hg (by simp [newU]),List.nodup_nil,Nat.zero_le _,fun c hc => absurd hc (by simp [newU]),List.nodup_nil,Nat.zero_le _,fun h hh => absurd hh (by simp [newU]),Nat.zero_le _⟩
theorem recD_right {p s x : List UInt8} {n : Int} (h : recD p s n = some x) : rightB x = true := by
 unfold recD at h
 split at h
 · rename_i hc
   obtain rfl := Option.some.inj h
   exact MacM.right_recL ⟨hc.1.1,hc.1.2,hc.2,MacM.derL_length _ _ _⟩
 · cases h
theorem right_apply {u v : UV} {r : RV} {p s : List UInt8} {n : Int} (hu : RightU u) (h : applyD u r (recD p s n) = some v) : RightU v := by
 obtain ⟨hr,hf,x,rfl,hx⟩ := apply_inv h
 exact right_set hu hr hf (fun e => recD_right (hx e))
theorem right_getD {u : UV} {r : RV} {p s : List UInt8} {n : Int} (hu : RightU u) : RightU ((applyD u r (recD p s n)).getD u) := by
 cases h : applyD u r (recD p s n) with
 | none => exact hu
 | some v => exact right_apply hu h
theorem less_less (a b : Nat) : (a ^^^ (a &&& b)) ^^^ ((a ^^^ (a &&& b)) &&& b) = a ^^^ (a &&& b) := by
 apply Nat.eq_of_testBit_eq
 intro k
 simp only [Nat.testBit_xor,Nat.testBit_and]
 cases a.testBit k <;> cases b.testBit k <;> rfl
theorem set_set {u : UV} {r : RV} {x : List UInt8} (h1 : 1 ≤ r.kind) (h14 : r.kind ≤ 14) : setU (setU u r x) r x = setU u r x := by
 obtain ⟨k,s,a,b,m⟩ := r
 simp only at h1 h14
 match k,h1,h14 with
 | 1,_,_ => rfl
 | 2,_,_ => rfl
 | 3,_,_ => rfl
 | 4,_,_ => rfl
 | 5,_,_ =>
   show UV.mk u.name u.on false (moreL (moreL u.hs x) x) u.cmds u.ks u.cs = _
   rw [more_more]
   rfl
 | 6,_,_ =>
   show UV.mk u.name u.on false (moreL (moreL u.hs s) s) u.cmds u.ks u.cs = _
   rw [more_more]
   rfl
 | 7,_,_ =>
   show UV.mk u.name u.on u.np ((u.hs.filter _).filter _) u.cmds u.ks u.cs = _
   rw [List.filter_filter]
   simp [setU]
 | 8,_,_ =>
   show UV.mk u.name u.on u.np u.hs ((u.cmds ||| m) ||| m) u.ks u.cs = _
   rw [Nat.or_assoc,Nat.or_self]
   rfl
 | 9,_,_ =>
   show UV.mk u.name u.on u.np u.hs ((u.cmds ^^^ (u.cmds &&& m)) ^^^ ((u.cmds ^^^ (u.cmds &&& m)) &&& m)) u.ks u.cs = _
   rw [less_less]
   rfl
 | 10,_,_ =>
   show UV.mk u.name u.on u.np u.hs u.cmds (keysL (keysL u.ks s a b) s a b) u.cs = _
   rw [keys_keys]
   rfl
 | 11,_,_ => rfl
 | 12,_,_ =>
   show UV.mk u.name u.on u.np u.hs u.cmds u.ks (moreL (moreL u.cs s) s) = _
   rw [more_more]
   rfl
 | 13,_,_ => rfl
 | 14,_,_ => rfl
theorem apply_twice {u v : UV} {r : RV} {rec : Option (List UInt8)} (h : applyD u r rec = some v) : applyD v r rec = some v := by
 obtain ⟨hr,hf,x,hv,hx⟩ := apply_inv h
 have hs : setU v r x = v := by rw [hv]; exact set_set (kind_of hr).1 (kind_of hr).2
 unfold applyD
 rw [if_pos hr]
 by_cases h5 : r.kind = 5
 · rw [if_pos h5,hx h5]
   simp only [hs]
   rw [if_pos hf]
 · have e : ∀ y,setU v r y = setU v r x := fun y => by
    obtain ⟨k,s,a,b,m⟩ := r
    simp only at h5
    have := kind_of hr
    simp only at this
    match k,this.1,this.2,h5 with
    | 1,_,_,_ | 2,_,_,_ | 3,_,_,_ | 4,_,_,_ | 6,_,_,_ | 7,_,_,_ | 8,_,_,_ | 9,_,_,_ | 10,_,_,_ | 11,_,_,_ | 12,_,_,_ | 13,_,_,_ | 14,_,_,_ => rfl
   rw [if_neg h5,e,hs,if_pos hf]
theorem join_snoc : ∀ (ws : List (List UInt8)) (x : List UInt8),ws ≠ [] → joinW (ws ++ [x]) = joinW ws ++ 32 :: x
  | [],_,h => absurd rfl h
  | [a],x,_ => rfl
  | a :: b :: t,x,_ => by
    show a ++ 32 :: joinW ((b :: t) ++ [x]) = _
    rw [join_snoc (b :: t) x (by simp),joinW]
    simp
theorem cmds_last (m : Nat) : ∃ A c w,cmdsW m = A ++ [c :: w] ∧ (c = 43 ∨ c = 45) := by
 unfold cmdsW
 split
 · exact ⟨[],43,_,rfl,Or.inl rfl⟩
 · rcases h : idsL m with _ | ⟨i,t⟩
   · exact ⟨[],45,_,rfl,Or.inr rfl⟩
   · refine ⟨[45,64,97,108,108] :: ((i :: t).dropLast).map (fun i => 43 :: (cmdAt i).name),43,(cmdAt ((i :: t).getLast (by simp))).name,?_,Or.inl rfl⟩
     have e := List.dropLast_concat_getLast (l := i :: t) (by simp)
     generalize hd : (i :: t).dropLast = D at e ⊢
     generalize hg : (i :: t).getLast (by simp) = G at e ⊢
     rw [← e]
     simp
theorem words_last (u : UV) : ∃ A c w,wordsD u = A ++ [c :: w] ∧ (c = 43 ∨ c = 45) := by
 obtain ⟨A,c,w,h,hc⟩ := cmds_last u.cmds
 refine ⟨[117,115,101,114] :: u.name :: (if u.on then [111,110] else [111,102,102]) :: ((if u.np then [[110,111,112,97,115,115]] else []) ++ (u.hs.map (fun h => 35 :: h) ++ (u.ks.map (fun g => markL g ++ g.pat) ++ (u.cs.map (fun c => 38 :: c) ++ A)))),c,w,?_,hc⟩
 unfold wordsD bodyW
 rw [h]
 simp
theorem parse_tail {u : UV} (hu : rightU u = true) {x : List UInt8} (hx : (32 : UInt8) ∉ x) (h1 : x.head? ≠ some 43) (h2 : x.head? ≠ some 45) : parseD (textD u ++ 32 :: x) = none := by
 cases h : parseD (textD u ++ 32 :: x) with
 | none => rfl
 | some v =>
   obtain ⟨hv,ht⟩ := parse_some h
   have e : splitW (textD v) = wordsD u ++ [x] := by
    rw [ht]
    have : textD u ++ 32 :: x = joinW (wordsD u ++ [x]) := (join_snoc _ _ (by simp [wordsD])).symm
    rw [this]
    refine split_join _ (by simp) fun w hw => ?_
    rcases List.mem_append.1 hw with hw | hw
    · exact words_blank ((right_iff u).1 hu) w hw
    · rw [List.mem_singleton.1 hw]
      exact hx
   rw [split_text ((right_iff v).1 hv)] at e
   obtain ⟨A,c,w,hA,hc⟩ := words_last v
   rw [hA] at e
   have e2 := congrArg List.getLast? e
   simp at e2
   rcases hc with rfl | rfl
   · exact absurd (by rw [← e2]; rfl) h1
   · exact absurd (by rw [← e2]; rfl) h2
theorem parse_front (u : UV) : parseD (32 :: textD u) = none := by
 cases h : parseD (32 :: textD u) with
 | none => rfl
 | some v =>
   obtain ⟨-,ht⟩ := parse_some h
   have : (textD v).head? = some 117 := by
    unfold textD wordsD
    rw [join_head]
    rfl
   rw [ht] at this
   exact absurd this (by simp)
def nameC (c : UInt8) : Bool := decide (32 < c.toNat) && decide (c.toNat < 127)
def nameD (l : List UInt8) : List UInt8 := if (l.filter nameC).take 12 = [] then [117] else (l.filter nameC).take 12
def fitS (u : UV) (r : RV) : UV := if r.s.length ≤ 140 then (applyD u r (recD r.s [] 1)).getD u else u
def fitD (name : List UInt8) (l : List RV) : UV := (l.take 20).foldl fitS (newU (nameD name))
theorem name_word (l : List UInt8) : wordB (nameD l) = true ∧ (nameD l).length ≤ 12 := by
 unfold nameD
 split
 · exact ⟨by decide,by decide⟩
 · rename_i h
   refine ⟨?_,by rw [List.length_take]; omega⟩
   unfold NumW.wordB
   rw [Bool.and_eq_true]
   refine ⟨?_,by simpa using h⟩
   rw [List.all_eq_true]
   intro c hc
   have := (List.mem_filter.1 (List.mem_of_mem_take hc)).2
   unfold nameC at this
   unfold NumW.okByte
   simp at this ⊢
   omega
theorem fit_step {u : UV} (h : RightU u) (r : RV) : RightU (fitS u r) := by
 unfold fitS
 split
 · exact right_getD h
 · exact h
theorem fit_fold : ∀ (l : List RV) (u : UV),RightU u → RightU (l.foldl fitS u)
  | [],_,h => h
  | r :: l,u,h => fit_fold l _ (fit_step h r)
theorem fit_right (name : List UInt8) (l : List RV) : RightU (fitD name l) := fit_fold _ _ (right_new (name_word name).1 (Nat.le_trans (name_word name).2 (by decide)))
end Go.Proofs.YtpoinibckmbfcaaGreatDoor.UserT
namespace Go.Proofs.YtpoinibckmbfcaaGreatDoor.PopT
set_option maxRecDepth 100000
theorem bit_lo (h l i : Nat) (hl : l < 256) : (h * 256 + l).testBit i = if i < 8 then l.testBit i else h.testBit (i - 8) := by
 have := Nat.testBit_two_pow_mul_add h (i := 8) (b := l) (by simpa using hl) i
 rw [show (2 : Nat) ^ 8 * h + l = h * 256 + l by omega] at this
 exact this
theorem and_byte (h l h' l' : Nat) (hl : l < 256) (hl' : l' < 256) : (h * 256 + l) &&& (h' * 256 + l') = (h &&& h') * 256 + (l &&& l') := by
 have hb : l &&& l' < 256 := Nat.lt_of_le_of_lt Nat.and_le_left hl
 apply Nat.eq_of_testBit_eq
 intro i
 rw [Nat.testBit_and,bit_lo _ _ _ hl,bit_lo _ _ _ hl',bit_lo _ _ _ hb]
 split <;> rw [Nat.testBit_and]
theorem shift_byte (k h l h' l' : Nat) (hl : l < 256) (hl' : l' < 256) (hk : l' < 2 ^ (8 - k)) (hk8 : k ≤ 8) : ((h * 256 + l) / 2 ^ k) &&& (h' * 256 + l') = ((h / 2 ^ k) &&& h') * 256 + ((l / 2 ^ k) &&& l') := by
 have hlk : l / 2 ^ k < 256 := Nat.lt_of_le_of_lt (Nat.div_le_self _ _) hl
 have hb : (l / 2 ^ k) &&& l' < 256 := Nat.lt_of_le_of_lt Nat.and_le_left hlk
 apply Nat.eq_of_testBit_eq
 intro i
 rw [Nat.testBit_and,bit_lo _ _ _ hl',bit_lo _ _ _ hb,Nat.testBit_div_two_pow,bit_lo _ _ _ hl]
 by_cases h1 : i < 8
 · rw [if_pos h1,if_pos h1,Nat.testBit_and,Nat.testBit_div_two_pow]
   by_cases h2 : i + k < 8
   · rw [if_pos h2]
   · have h3 : l'.testBit i = false := Nat.testBit_lt_two_pow (Nat.lt_of_lt_of_le hk (Nat.pow_le_pow_right (by decide) (by omega)))
     rw [h3,Bool.and_false,Bool.and_false]
 · rw [if_neg h1,if_neg h1,Nat.testBit_and,Nat.testBit_div_two_pow,if_neg (by omega),show i - 8 + k = i + k - 8 by omega]
def popA (x : Nat) : Nat := (x / 2 &&& 6148914691236517205) + (x &&& 6148914691236517205)
def popB (a : Nat) : Nat := (a / 4 &&& 3689348814741910323) + (a &&& 3689348814741910323)
def popC (b : Nat) : Nat := (b / 16 + b) &&& 1085102592571150095
def popD (c : Nat) : Nat := c + c / 256
def popE (d : Nat) : Nat := d + d / 65536
def popG (e : Nat) : Nat := e + e / 4294967296
def popF (x : Nat) : Nat := popG (popE (popD (popC (popB (popA x))))) &&& 127
def pk : List Nat → Nat
  | [] => 0
  | b :: t => pk t * 256 + b
def f1 (b : Nat) : Nat := (b / 2 &&& 85) + (b &&& 85)
def f2 (b : Nat) : Nat := (b / 4 &&& 51) + (b &&& 51)
def f3 (b : Nat) : Nat := b / 16 + b % 16
theorem step1 : ∀ l : List Nat,(∀ b ∈ l,b < 256) → (pk l / 2 &&& pk (l.map fun _ => 85)) + (pk l &&& pk (l.map fun _ => 85)) = pk (l.map f1)
  | [],_ => rfl
  | b :: t,h => by
    have hb := h b (by simp)
    have ih := step1 t (fun x hx => h x (by simp [hx]))
    simp only [List.map_cons,pk]
    have e1 := shift_byte 1 (pk t) b (pk (t.map fun _ => 85)) 85 hb (by decide) (by decide) (by decide)
    rw [show (2 : Nat) ^ 1 = 2 from rfl] at e1
    rw [e1,and_byte _ _ _ _ hb (by decide),← ih]
    unfold f1
    omega
theorem step2 : ∀ l : List Nat,(∀ b ∈ l,b < 256) → (pk l / 4 &&& pk (l.map fun _ => 51)) + (pk l &&& pk (l.map fun _ => 51)) = pk (l.map f2)
  | [],_ => rfl
  | b :: t,h => by
    have hb := h b (by simp)
    have ih := step2 t (fun x hx => h x (by simp [hx]))
    simp only [List.map_cons,pk]
    have e1 := shift_byte 2 (pk t) b (pk (t.map fun _ => 51)) 51 hb (by decide) (by decide) (by decide)
    rw [show (2 : Nat) ^ 2 = 4 from rfl] at e1
    rw [e1,and_byte _ _ _ _ hb (by decide),← ih]
    unfold f2
    omega
theorem step3 : ∀ l : List Nat,(∀ b ∈ l,b / 16 ≤ 4 ∧ b % 16 ≤ 4) → ((pk l / 16 + pk l) &&& pk (l.map fun _ => 15)) = pk (l.map f3)
  | [],_ => rfl
  | b :: t,h => by
    obtain ⟨h1,h2⟩ := h b (by simp)
    have ih := step3 t (fun x hx => h x (by simp [hx]))
    have ht : pk t % 16 ≤ 4 := by
     cases t with
     | nil => decide
     | cons c r =>
       have := (h c (by simp)).2
       simp only [pk]
       omega
    simp only [List.map_cons,pk]
    rw [show (pk t * 256 + b) / 16 + (pk t * 256 + b) = (pk t / 16 + pk t) * 256 + ((pk t % 16 + b / 16) * 16 + (b / 16 + b % 16)) by omega,and_byte _ _ _ _ (by omega) (by decide),ih]
    congr 1
    rw [show (15 : Nat) = 2 ^ 4 - 1 from rfl,Nat.and_two_pow_sub_one_eq_mod]
    unfold f3
    omega
def byteP (b : Nat) : Nat := f3 (f2 (f1 b))
theorem bytes_ok : (List.range 256).all (fun b => decide (f1 b < 256) && decide (f2 (f1 b) / 16 ≤ 4 ∧ f2 (f1 b) % 16 ≤ 4) && decide (byteP b ≤ 8) && (decide (byteP b ≠ 0) || decide (b = 0)) && (decide (byteP b ≠ 1) || (List.range 8).any fun t => decide (b = 2 ^ t))) = true := by decide +kernel
theorem byte_ok {b : Nat} (h : b < 256) : f1 b < 256 ∧ (f2 (f1 b) / 16 ≤ 4 ∧ f2 (f1 b) % 16 ≤ 4) ∧ byteP b ≤ 8 ∧ (byteP b = 0 → b = 0) ∧ (byteP b = 1 → ∃ t,t < 8 ∧ b = 2 ^ t) := by
 have := List.all_eq_true.1 bytes_ok b (List.mem_range.2 h)
 simp only [Bool.and_eq_true,decide_eq_true_eq,Bool.or_eq_true] at this
 obtain ⟨⟨⟨⟨h1,h2⟩,h3⟩,h4⟩,h5⟩ := this
 refine ⟨h1,h2,h3,fun e => ?_,fun e => ?_⟩
 · rcases h4 with h4 | h4
   · exact absurd e h4
   · exact h4
 · rcases h5 with h5 | h5
   · exact absurd e h5
   · obtain ⟨t,ht,et⟩ := List.any_eq_true.1 h5
     exact ⟨t,List.mem_range.1 ht,of_decide_eq_true et⟩
theorem last_sum (p0 p1 p2 p3 p4 p5 p6 p7 : Nat) (h0 : p0 ≤ 8) (h1 : p1 ≤ 8) (h2 : p2 ≤ 8) (h3 : p3 ≤ 8) (h4 : p4 ≤ 8) (h5 : p5 ≤ 8) (h6 : p6 ≤ 8) (h7 : p7 ≤ 8) (c d e f : Nat) (hc : c = pk [p0,p1,p2,p3,p4,p5,p6,p7]) (hd : d = c + c / 256) (he : e = d + d / 65536) (hf : f = e + e / 4294967296) :
  f &&& 127 = p0 + p1 + p2 + p3 + p4 + p5 + p6 + p7 := by
 simp only [pk] at hc
 have e1 : c / 256 = pk [p1,p2,p3,p4,p5,p6,p7] := by simp only [pk]; omega
 have e2 : d = pk [p0 + p1,p1 + p2,p2 + p3,p3 + p4,p4 + p5,p5 + p6,p6 + p7,p7] := by
  rw [hd,e1,hc]
  simp only [pk]
  omega
 have e3 : d / 65536 = pk [p2 + p3,p3 + p4,p4 + p5,p5 + p6,p6 + p7,p7] := by rw [e2]; simp only [pk]; omega
 have e4 : e = pk [p0 + p1 + (p2 + p3),p1 + p2 + (p3 + p4),p2 + p3 + (p4 + p5),p3 + p4 + (p5 + p6),p4 + p5 + (p6 + p7),p5 + p6 + p7,p6 + p7,p7] := by
  rw [he,e3,e2]
  simp only [pk]
  omega
 have e5 : e / 4294967296 = pk [p4 + p5 + (p6 + p7),p5 + p6 + p7,p6 + p7,p7] := by rw [e4]; simp only [pk]; omega
 have e6 : f % 256 = p0 + p1 + (p2 + p3) + (p4 + p5 + (p6 + p7)) := by
  rw [hf,e5,e4]
  simp only [pk]
  omega
 rw [show (127 : Nat) = 2 ^ 7 - 1 from rfl,Nat.and_two_pow_sub_one_eq_mod]
 omega
theorem eight (x : Nat) (h : x < 18446744073709551616) : ∃ b0 b1 b2 b3 b4 b5 b6 b7,x = pk [b0,b1,b2,b3,b4,b5,b6,b7] ∧ b0 < 256 ∧ b1 < 256 ∧ b2 < 256 ∧ b3 < 256 ∧ b4 < 256 ∧ b5 < 256 ∧ b6 < 256 ∧ b7 < 256 := by
 refine ⟨x % 256,x / 256 % 256,x / 65536 % 256,x / 16777216 % 256,x / 4294967296 % 256,x / 1099511627776 % 256,x / 281474976710656 % 256,x / 72057594037927936 % 256,?_,by omega,by omega,by omega,by omega,by omega,by omega,by omega,by omega⟩
 simp only [pk]
 omega
theorem m85 : pk [85,85,85,85,85,85,85,85] = 6148914691236517205 := by decide +kernel
theorem m51 : pk [51,51,51,51,51,51,51,51] = 3689348814741910323 := by decide +kernel
theorem m15 : pk [15,15,15,15,15,15,15,15] = 1085102592571150095 := by decide +kernel
theorem pop_sum (b0 b1 b2 b3 b4 b5 b6 b7 : Nat) (h0 : b0 < 256) (h1 : b1 < 256) (h2 : b2 < 256) (h3 : b3 < 256) (h4 : b4 < 256) (h5 : b5 < 256) (h6 : b6 < 256) (h7 : b7 < 256) :
  popF (pk [b0,b1,b2,b3,b4,b5,b6,b7]) = byteP b0 + byteP b1 + byteP b2 + byteP b3 + byteP b4 + byteP b5 + byteP b6 + byteP b7 := by
 have all : ∀ b ∈ [b0,b1,b2,b3,b4,b5,b6,b7],b < 256 := by
  intro b hb
  simp only [List.mem_cons,List.not_mem_nil,or_false] at hb
  rcases hb with rfl | rfl | rfl | rfl | rfl | rfl | rfl | rfl <;> assumption
 have s1 := step1 _ all
 have s2 := step2 ([b0,b1,b2,b3,b4,b5,b6,b7].map f1) (fun x hx => by
  obtain ⟨b,hb,rfl⟩ := List.mem_map.1 hx
  exact (byte_ok (all b hb)).1)
 have s3 := step3 (([b0,b1,b2,b3,b4,b5,b6,b7].map f1).map f2) (fun x hx => by
  obtain ⟨y,hy,rfl⟩ := List.mem_map.1 hx
  obtain ⟨b,hb,rfl⟩ := List.mem_map.1 hy
  exact (byte_ok (all b hb)).2.1)
 simp only [List.map_cons,List.map_nil] at s1 s2 s3
 rw [m85] at s1
 rw [m51] at s2
 rw [m15] at s3
 have s4 := last_sum (byteP b0) (byteP b1) (byteP b2) (byteP b3) (byteP b4) (byteP b5) (byteP b6) (byteP b7) (byte_ok h0).2.2.1 (byte_ok h1).2.2.1 (byte_ok h2).2.2.1 (byte_ok h3).2.2.1 (byte_ok h4).2.2.1 (byte_ok h5).2.2.1 (byte_ok h6).2.2.1 (byte_ok h7).2.2.1
 unfold byteP at s4 ⊢
 have t1 : popA (pk [b0,b1,b2,b3,b4,b5,b6,b7]) = _ := s1
 have t2 : popB (pk [f1 b0,f1 b1,f1 b2,f1 b3,f1 b4,f1 b5,f1 b6,f1 b7]) = _ := s2
 have t3 : popC (pk [f2 (f1 b0),f2 (f1 b1),f2 (f1 b2),f2 (f1 b3),f2 (f1 b4),f2 (f1 b5),f2 (f1 b6),f2 (f1 b7)]) = _ := s3
 unfold popF
 rw [t1,t2,t3]
 exact s4 _ _ _ _ rfl rfl rfl rfl
theorem pop_one {x : Nat} (hx : x < 18446744073709551616) (h : popF x = 1) : ∃ i,i < 64 ∧ x = 2 ^ i := by
 obtain ⟨b0,b1,b2,b3,b4,b5,b6,b7,e,h0,h1,h2,h3,h4,h5,h6,h7⟩ := eight x hx
 rw [e,pop_sum _ _ _ _ _ _ _ _ h0 h1 h2 h3 h4 h5 h6 h7] at h
 obtain ⟨-,-,-,z0,o0⟩ := byte_ok h0
 obtain ⟨-,-,-,z1,o1⟩ := byte_ok h1
 obtain ⟨-,-,-,z2,o2⟩ := byte_ok h2
 obtain ⟨-,-,-,z3,o3⟩ := byte_ok h3
 obtain ⟨-,-,-,z4,o4⟩ := byte_ok h4
 obtain ⟨-,-,-,z5,o5⟩ := byte_ok h5
 obtain ⟨-,-,-,z6,o6⟩ := byte_ok h6
 obtain ⟨-,-,-,z7,o7⟩ := byte_ok h7
 have key : ∀ (k t : Nat),t < 8 → k < 8 → x = 256 ^ k * 2 ^ t → ∃ i,i < 64 ∧ x = 2 ^ i := fun k t ht hk ex =>
  ⟨8 * k + t,by omega,by rw [ex,Nat.pow_add,Nat.pow_mul]⟩
 by_cases c0 : byteP b0 = 1
 · obtain ⟨t,ht,et⟩ := o0 c0
   refine key 0 t ht (by decide) ?_
   rw [e,et,z1 (by omega),z2 (by omega),z3 (by omega),z4 (by omega),z5 (by omega),z6 (by omega),z7 (by omega)]
   simp only [pk]
   omega
 by_cases c1 : byteP b1 = 1
 · obtain ⟨t,ht,et⟩ := o1 c1
   refine key 1 t ht (by decide) ?_
   rw [e,et,z0 (by omega),z2 (by omega),z3 (by omega),z4 (by omega),z5 (by omega),z6 (by omega),z7 (by omega)]
   simp only [pk]
   omega
 by_cases c2 : byteP b2 = 1
 · obtain ⟨t,ht,et⟩ := o2 c2
   refine key 2 t ht (by decide) ?_
   rw [e,et,z0 (by omega),z1 (by omega),z3 (by omega),z4 (by omega),z5 (by omega),z6 (by omega),z7 (by omega)]
   simp only [pk]
   omega
 by_cases c3 : byteP b3 = 1
 · obtain ⟨t,ht,et⟩ := o3 c3
   refine key 3 t ht (by decide) ?_
   rw [e,et,z0 (by omega),z1 (by omega),z2 (by omega),z4 (by omega),z5 (by omega),z6 (by omega),z7 (by omega)]
   simp only [pk]
   omega
 by_cases c4 : byteP b4 = 1
 · obtain ⟨t,ht,et⟩ := o4 c4
   refine key 4 t ht (by decide) ?_
   rw [e,et,z0 (by omega),z1 (by omega),z2 (by omega),z3 (by omega),z5 (by omega),z6 (by omega),z7 (by omega)]
   simp only [pk]
   omega
 by_cases c5 : byteP b5 = 1
 · obtain ⟨t,ht,et⟩ := o5 c5
   refine key 5 t ht (by decide) ?_
   rw [e,et,z0 (by omega),z1 (by omega),z2 (by omega),z3 (by omega),z4 (by omega),z6 (by omega),z7 (by omega)]
   simp only [pk]
   omega
 by_cases c6 : byteP b6 = 1
 · obtain ⟨t,ht,et⟩ := o6 c6
   refine key 6 t ht (by decide) ?_
   rw [e,et,z0 (by omega),z1 (by omega),z2 (by omega),z3 (by omega),z4 (by omega),z5 (by omega),z7 (by omega)]
   simp only [pk]
   omega
 · obtain ⟨t,ht,et⟩ := o7 (by omega)
   refine key 7 t ht (by decide) ?_
   rw [e,et,z0 (by omega),z1 (by omega),z2 (by omega),z3 (by omega),z4 (by omega),z5 (by omega),z6 (by omega)]
   simp only [pk]
   omega
theorem pop_two : (List.range 64).all (fun i => decide (popF (2 ^ i) = 1)) = true := by decide +kernel
end Go.Proofs.YtpoinibckmbfcaaGreatDoor.PopT
namespace Go.Proofs.YtpoinibckmbfcaaGreatDoor.UserT
open Go.RowKit Kit TableMath Low RuleT PopT
open NumW (wordB okByte)
open MacM (rightB)
set_option linter.unusedVariables false
set_option maxRecDepth 100000
def keysWd (s : List UInt8) (r w : Bool) : List UInt8 := if r then (if w then 126 :: s else 37 :: 82 :: 126 :: s) else (if w then 37 :: 87 :: 126 :: s else [])
def catsA : List (List UInt8) := cats ++ [[97,108,108]]
def bitAt (m : Nat) : Nat := (List.range 64).findIdx fun i => decide (2 ^ i = m)
def cmdN (i : Nat) : List UInt8 := if i < 56 then (cmdAt i).name else []
def maskWd (m : Nat) : List UInt8 :=
 if popF m = 1 then cmdN (bitAt m)
 else match catsA.find? fun c => decide (catV c = m) with
   | some c => 64 :: c
   | none => []
def wordR (r : RV) : List UInt8 :=
 match r.kind with
 | 1 => [111,110]
 | 2 => [111,102,102]
 | 3 => [110,111,112,97,115,115]
 | 4 => [114,101,115,101,116,112,97,115,115]
 | 5 => 62 :: r.s
 | 6 => 35 :: r.s
 | 7 => 33 :: r.s
 | 8 => 43 :: maskWd r.mask
 | 9 => 45 :: maskWd r.mask
 | 10 => keysWd r.s r.r r.w
 | 11 => [114,101,115,101,116,107,101,121,115]
 | 12 => 38 :: r.s
 | 13 => [114,101,115,101,116,99,104,97,110,110,101,108,115]
 | 14 => [114,101,115,101,116]
 | _ => []
theorem bitAt_pow (i : Nat) (hi : i < 64) : bitAt (2 ^ i) = i := by
 have hl : (List.range 64).length = 64 := List.length_range
 have hle : bitAt (2 ^ i) ≤ i := by
  apply Nat.le_of_not_lt
  intro hlt
  have := List.not_of_lt_findIdx hlt
  simp at this
 have hw : bitAt (2 ^ i) < 64 := by omega
 have h2 := List.findIdx_getElem (xs := List.range 64) (p := fun k => decide (2 ^ k = 2 ^ i)) (w := by rw [hl]; exact hw)
 have h3 : 2 ^ bitAt (2 ^ i) = 2 ^ i := by
  have h4 := of_decide_eq_true h2
  rwa [List.getElem_range] at h4
 exact (Nat.pow_right_inj (by decide)).1 h3
theorem catsA_ok : catsA.all (fun c => catB c) = true := by decide +kernel
theorem pop_pow (i : Nat) (hi : i < 64) : popF (2 ^ i) = 1 := of_decide_eq_true (List.all_eq_true.1 pop_two i (List.mem_range.2 hi))
theorem mask_none : maskD [] = none := by decide +kernel
theorem mask_word {m : Nat} (hm : m < 18446744073709551616) : maskD (maskWd m) = if namedB m then some m else none := by
 unfold maskWd
 by_cases h1 : popF m = 1
 · rw [if_pos h1]
   obtain ⟨i,hi,rfl⟩ := pop_one hm h1
   rw [bitAt_pow i hi]
   unfold cmdN
   by_cases h56 : i < 56
   · rw [if_pos h56,(mask_cmd i h56).1,if_pos]
     unfold namedB
     rw [Bool.or_eq_true,Bool.or_eq_true]
     exact Or.inr (Or.inr (List.any_eq_true.2 ⟨i,List.mem_range.2 h56,decide_eq_true rfl⟩))
   · rw [if_neg h56,mask_none,if_neg]
     intro hn
     have h2 := named_le hn
     have h3 : 2 ^ 56 ≤ 2 ^ i := Nat.pow_le_pow_right (by decide) (by omega)
     have h4 := lt_allM.1 h2
     omega
 · rw [if_neg h1]
   cases hf : catsA.find? fun c => decide (catV c = m) with
   | some c =>
     have hc := List.mem_of_find?_eq_some hf
     have hv : catV c = m := by simpa using List.find?_some hf
     have hb : catB c = true := List.all_eq_true.1 catsA_ok c hc
     show maskD (64 :: c) = _
     rw [mask_cat,if_pos hb,hv,if_pos]
     unfold namedB
     rw [Bool.or_eq_true,Bool.or_eq_true]
     rcases List.mem_append.1 hc with hc | hc
     · exact Or.inr (Or.inl (List.any_eq_true.2 ⟨c,hc,decide_eq_true hv⟩))
     · rw [List.mem_singleton.1 hc,cat_whole.1] at hv
       exact Or.inl (decide_eq_true hv.symm)
   | none =>
     have hno := List.find?_eq_none.1 hf
     show maskD [] = _
     rw [mask_none,if_neg]
     intro hn
     unfold namedB at hn
     rw [Bool.or_eq_true,Bool.or_eq_true] at hn
     rcases hn with hn | hn | hn
     · have := hno [97,108,108] (List.mem_append.2 (Or.inr (by simp)))
       rw [cat_whole.1] at this
       exact this (decide_eq_true (of_decide_eq_true hn).symm)
     · obtain ⟨c,hc,e⟩ := List.any_eq_true.1 hn
       exact hno c (List.mem_append.2 (Or.inl hc)) e
     · obtain ⟨i,hi,e⟩ := List.any_eq_true.1 hn
       have hi' := List.mem_range.1 hi
       exact h1 (by rw [← of_decide_eq_true e]; exact pop_pow i (by omega))
theorem rule_nil : ruleD [] = none := by decide +kernel
theorem words_7 (i : Nat) (hi : i < 7) : ruleD (plainW.getD i []) = some ⟨plainK.getD i 0,[],false,false,0⟩ := by
 have := List.all_eq_true.1 rule_words i (List.mem_range.2 hi)
 simp only [decide_eq_true_eq] at this
 exact this.1
theorem is_rule (r : RV) (hm : r.mask < 18446744073709551616) : decide (ruleD (wordR r) = some r) = rightR r := by
 obtain ⟨k,s,a,b,m⟩ := r
 simp only at hm
 have plain : ∀ (k : Nat) (w : List UInt8),ruleD w = some ⟨k,[],false,false,0⟩ → decide (ruleD w = some (⟨k,s,a,b,m⟩ : RV)) = decide ((⟨k,s,a,b,m⟩ : RV) = ⟨k,[],false,false,0⟩) := by
  intro k w e
  rw [e]
  by_cases h : (⟨k,s,a,b,m⟩ : RV) = ⟨k,[],false,false,0⟩
  · rw [decide_eq_true h,h]
    exact decide_eq_true rfl
  · rw [decide_eq_false h]
    exact decide_eq_false (fun e => h (Option.some.inj e).symm)
 have masked : ∀ (k : Nat) (w : List UInt8),ruleD w = (maskD (maskWd m)).map (fun m => (⟨k,[],false,false,m⟩ : RV)) → decide (ruleD w = some (⟨k,s,a,b,m⟩ : RV)) = (decide ((⟨k,s,a,b,m⟩ : RV) = ⟨k,[],false,false,m⟩) && namedB m) := by
  intro k w e
  rw [e,mask_word hm]
  cases hn : namedB m with
  | true =>
    rw [if_pos rfl,Bool.and_true,Option.map_some]
    by_cases h : (⟨k,s,a,b,m⟩ : RV) = ⟨k,[],false,false,m⟩
    · rw [decide_eq_true h,h]
      exact decide_eq_true rfl
    · rw [decide_eq_false h]
      exact decide_eq_false (fun e => h (Option.some.inj e).symm)
  | false =>
    rw [if_neg Bool.false_ne_true,Bool.and_false]
    exact decide_eq_false (by simp)
 have cond : ∀ (k : Nat) (w : List UInt8) (x : RV) (c : Bool),ruleD w = (if c then some x else none) → decide (ruleD w = some (⟨k,s,a,b,m⟩ : RV)) = (decide ((⟨k,s,a,b,m⟩ : RV) = x) && c) := by
  intro k w x c e
  rw [e]
  cases c with
  | true =>
    rw [if_pos rfl,Bool.and_true]
    by_cases h : (⟨k,s,a,b,m⟩ : RV) = x
    · rw [decide_eq_true h,h]
      exact decide_eq_true rfl
    · rw [decide_eq_false h]
      exact decide_eq_false (fun e => h (Option.some.inj e).symm)
  | false =>
    rw [if_neg Bool.false_ne_true,Bool.and_false]
    exact decide_eq_false (by simp)
 match k with
 | 0 => exact (decide_eq_false (show ¬ ruleD [] = _ by rw [rule_nil]; simp)).trans (by simp [rightR])
 | 1 => rw [show rightR ⟨1,s,a,b,m⟩ = (decide ((⟨1,s,a,b,m⟩ : RV) = ⟨1,[],false,false,0⟩) && true) from rfl,Bool.and_true]; exact plain 1 _ (words_7 0 (by decide))
 | 2 => rw [show rightR ⟨2,s,a,b,m⟩ = (decide ((⟨2,s,a,b,m⟩ : RV) = ⟨2,[],false,false,0⟩) && true) from rfl,Bool.and_true]; exact plain 2 _ (words_7 1 (by decide))
 | 3 => rw [show rightR ⟨3,s,a,b,m⟩ = (decide ((⟨3,s,a,b,m⟩ : RV) = ⟨3,[],false,false,0⟩) && true) from rfl,Bool.and_true]; exact plain 3 _ (words_7 2 (by decide))
 | 4 => rw [show rightR ⟨4,s,a,b,m⟩ = (decide ((⟨4,s,a,b,m⟩ : RV) = ⟨4,[],false,false,0⟩) && true) from rfl,Bool.and_true]; exact plain 4 _ (words_7 3 (by decide))
 | 5 => exact (cond 5 _ ⟨5,s,false,false,0⟩ true (rule_pass s)).trans (Bool.and_true _)
 | 6 => exact cond 6 _ ⟨6,s,false,false,0⟩ (rightB s) (rule_hash s)
 | 7 => exact cond 7 _ ⟨7,s,false,false,0⟩ (rightB s) (rule_unhash s)
 | 8 => exact masked 8 _ (rule_add _)
 | 9 => exact masked 9 _ (rule_sub _)
 | 10 =>
   have hr : rightR ⟨10,s,a,b,m⟩ = (decide ((⟨10,s,a,b,m⟩ : RV) = ⟨10,s,a,b,0⟩) && wordB s && (a || b)) := rfl
   rw [hr]
   cases a with
   | true =>
     cases b with
     | true => exact (cond 10 _ ⟨10,s,true,true,0⟩ (wordB s) (rule_both s)).trans (Bool.and_true _).symm
     | false => exact (cond 10 _ ⟨10,s,true,false,0⟩ (wordB s) (rule_read s)).trans (Bool.and_true _).symm
   | false =>
     cases b with
     | true => exact (cond 10 _ ⟨10,s,false,true,0⟩ (wordB s) (rule_write s)).trans (Bool.and_true _).symm
     | false => exact (decide_eq_false (show ¬ ruleD [] = _ by rw [rule_nil]; simp)).trans (Bool.and_false _).symm
 | 11 => rw [show rightR ⟨11,s,a,b,m⟩ = (decide ((⟨11,s,a,b,m⟩ : RV) = ⟨11,[],false,false,0⟩) && true) from rfl,Bool.and_true]; exact plain 11 _ (words_7 4 (by decide))
 | 12 => exact cond 12 _ ⟨12,s,false,false,0⟩ (wordB s) (rule_chan s)
 | 13 => rw [show rightR ⟨13,s,a,b,m⟩ = (decide ((⟨13,s,a,b,m⟩ : RV) = ⟨13,[],false,false,0⟩) && true) from rfl,Bool.and_true]; exact plain 13 _ (words_7 5 (by decide))
 | 14 => rw [show rightR ⟨14,s,a,b,m⟩ = (decide ((⟨14,s,a,b,m⟩ : RV) = ⟨14,[],false,false,0⟩) && true) from rfl,Bool.and_true]; exact plain 14 _ (words_7 6 (by decide))
 | k + 15 =>
   refine (decide_eq_false (show ¬ ruleD [] = _ by rw [rule_nil]; simp)).trans ?_
   unfold rightR
   rw [if_neg (by simp),if_neg (by simp),if_neg (by simp),if_neg (by simp),if_neg (by simp)]
   simp
end Go.Proofs.YtpoinibckmbfcaaGreatDoor.UserT
namespace Go.Proofs.YtpoinibckmbfcaaGreatDoor.UserM
open Go.RowKit Kit StrT RowG RuleT UserT UserR TableMath Low ValT RefUser
open Go.Sort (grow)
set_option linter.unusedVariables false
set_option maxRecDepth 100000
def idxI {α : Type} (L : List α) (p : α → Bool) : Int := if L.findIdx p < L.length then (L.findIdx p : Int) else -1
theorem idx_hit {α : Type} {L : List α} {p : α → Bool} {k : Nat} (hk : k < L.length) (hle : k ≤ L.findIdx p) (h : p (L[k]'hk) = true) : idxI L p = (k : Int) := by
 have e := RuleT.idx_at L p k hk hle h
 unfold idxI
 rw [e,if_pos hk]
theorem idx_miss {α : Type} {L : List α} {p : α → Bool} (hle : L.length ≤ L.findIdx p) : idxI L p = -1 := if_neg (by omega)
theorem idx_any {α : Type} (L : List α) (p : α → Bool) : decide (0 ≤ idxI L p) = L.any p := by
 unfold idxI
 by_cases h : L.findIdx p < L.length
 · rw [if_pos h,decide_eq_true (by omega)]
   exact (List.any_eq_true.2 ⟨_,List.getElem_mem h,List.findIdx_getElem (w := h)⟩).symm
 · rw [if_neg h,decide_eq_false (by omega)]
   symm
   rw [List.any_eq_false]
   intro x hx e
   exact h (List.findIdx_lt_length_of_exists ⟨x,hx,e⟩)
set_option maxHeartbeats 2000000 in
theorem idxf_s (fu : FuncId) (hE : ∀ (args : Array Value) (W : World),(callFunc fu args).run Tryz.prog W = .ok (.enter fu args) W) (cap : Array Value) (pr : List UInt8 → Bool) (q : Option Addr) (L : List (List UInt8)) (n c : Nat) (w : World) (h : RowIn strE w q n c L)
    (hF : ∀ W,Below w.heap.size w W → ∀ X : ByteArray,X.data.toList ∈ L → Calls Tryz.prog fu (#[.string X] ++ cap) W fun e w' => e = .returned (.bool (pr X.data.toList)) ∧ Below W.heap.size W w') :
    Calls Tryz.prog 94 #[.slice q n c,.func (.func fu) #[] cap] w fun e w' => e = .returned (.int .i64 (idxI L pr)) ∧ Below w.heap.size w w' := by
  have HR := Lib.hid h
  have HN := Lib.hid h.l
  have hf : n ≤ 1048576 := h.f
  have HF := Lib.hid hF
  have HB0 := Lib.hid (Below.refl w.heap.size w)
  clear h hF
  go_enter Tryz.func94,Tryz.ntmps94
  go_wp2_with fail
  go_loopw [8] (fun i wr => ∃ k : Nat,k ≤ n ∧ k ≤ L.findIdx pr ∧ i = .int .i64 k ∧ Hid (Below w.heap.size w wr)) (fun i _ => n - (intOf i).toNat)
  case atStart => exact ⟨0,Nat.zero_le _,Nat.zero_le _,rfl,HB0⟩
  case round =>
   obtain ⟨k,hk,hle,rfl,HB⟩ := hrel
   have HLe := Lib.hid hle
   clear hle
   by_cases hlt : k < n
   · have d1 : decide ((k : Int) < (n : Int)) = true := decide_eq_true (by omega)
     have hkl : k < L.length := by rw [HN.out]; exact hlt
     have k0 : (0 : Int) ≤ (k : Int) := by omega
     have k1 : (k : Int) < (n : Int) := by omega
     obtain ⟨b,off,rfl,hbl,hc⟩ := (rs_ss.1 (HR.out.r.keep HB.out)) (by omega)
     have v0 := hc k hkl
     obtain ⟨X,hX⟩ : ∃ X : ByteArray,X = ⟨L[k].toArray⟩ := ⟨_,rfl⟩
     rw [← hX] at v0
     have hXd : X.data.toList = L[k] := by rw [hX]
     have CF := HF.out wr HB.out X (by rw [hXd]; exact List.getElem_mem hkl)
     obtain ⟨B,hB⟩ : ∃ B,B = pr X.data.toList := ⟨_,rfl⟩
     rw [← hB] at CF
     rw [hXd] at hB
     have HC := Lib.hid CF
     clear CF hX hXd hc
     cases B with
     | true =>
       have HI := Lib.hid (idx_hit hkl HLe.out hB.symm)
       clear hB hkl
       go_wp2_with fail
       with_reducible refine HC.out.mono ?_
       rintro e w1 ⟨rfl,hb1⟩
       have HB1 := Lib.hid (HB.out.trans (hb1.mono HB.out.size))
       clear hb1 HB v0
       go_wp2_with fail
       go_ret
       rw [HI.out]
       exact ⟨rfl,HB1.out⟩
     | false =>
       have HI := Lib.hid (RuleT.idx_next L pr k hkl HLe.out hB.symm)
       clear hB hkl
       go_wp2_with fail
       with_reducible refine HC.out.mono ?_
       rintro e w1 ⟨rfl,hb1⟩
       have HB1 := Lib.hid (HB.out.trans (hb1.mono HB.out.size))
       clear hb1 HB v0
       go_wp2_with fail
       go_roundw
       case rel => exact ⟨k + 1,by omega,HI.out,by go_num,HB1⟩
       case measure => simp [intOf]; omega
   · have d1 : decide ((k : Int) < (n : Int)) = false := decide_eq_false (by omega)
     have HI := Lib.hid (idx_miss (p := pr) (show L.length ≤ L.findIdx pr by have := HLe.out; have := HN.out; omega))
     go_wp2_with fail
     go_ret
     rw [HI.out]
     exact ⟨rfl,HB.out⟩
set_option maxHeartbeats 2000000 in
theorem idxf_g (fu : FuncId) (hE : ∀ (args : Array Value) (W : World),(callFunc fu args).run Tryz.prog W = .ok (.enter fu args) W) (cap : Array Value) (pr : KG → Bool) (q : Option Addr) (L : List KG) (n c : Nat) (w : World) (h : RowIn glE w q n c L)
    (hF : ∀ W,Below w.heap.size w W → ∀ (x : KG) (X : ByteArray),x ∈ L → X.data.toList = x.pat → Calls Tryz.prog fu (#[.agg #[.string X,.bool x.r,.bool x.w]] ++ cap) W fun e w' => e = .returned (.bool (pr x)) ∧ Below W.heap.size W w') :
    Calls Tryz.prog 106 #[.slice q n c,.func (.func fu) #[] cap] w fun e w' => e = .returned (.int .i64 (idxI L pr)) ∧ Below w.heap.size w w' := by
  have HR := Lib.hid h
  have HN := Lib.hid h.l
  have hf : n ≤ 1048576 := h.f
  have HF := Lib.hid hF
  have HB0 := Lib.hid (Below.refl w.heap.size w)
  clear h hF
  go_enter Tryz.func106,Tryz.ntmps106
  go_wp2_with fail
  go_loopw [8] (fun i wr => ∃ k : Nat,k ≤ n ∧ k ≤ L.findIdx pr ∧ i = .int .i64 k ∧ Hid (Below w.heap.size w wr)) (fun i _ => n - (intOf i).toNat)
  case atStart => exact ⟨0,Nat.zero_le _,Nat.zero_le _,rfl,HB0⟩
  case round =>
   obtain ⟨k,hk,hle,rfl,HB⟩ := hrel
   have HLe := Lib.hid hle
   clear hle
   by_cases hlt : k < n
   · have d1 : decide ((k : Int) < (n : Int)) = true := decide_eq_true (by omega)
     have hkl : k < L.length := by rw [HN.out]; exact hlt
     have k0 : (0 : Int) ≤ (k : Int) := by omega
     have k1 : (k : Int) < (n : Int) := by omega
     obtain ⟨b,off,rfl,hbl,v0,v1,v2⟩ := glob_cells (HR.out.r.keep HB.out) k hkl
     obtain ⟨X,hX⟩ : ∃ X : ByteArray,X = ⟨L[k].pat.toArray⟩ := ⟨_,rfl⟩
     rw [← hX] at v0
     have hXd : X.data.toList = L[k].pat := by rw [hX]
     have CF := HF.out wr HB.out L[k] X (List.getElem_mem hkl) hXd
     obtain ⟨B,hB⟩ : ∃ B,B = pr L[k] := ⟨_,rfl⟩
     rw [← hB] at CF
     have HC := Lib.hid CF
     clear CF hX hXd
     cases B with
     | true =>
       have HI := Lib.hid (idx_hit hkl HLe.out hB.symm)
       clear hB
       generalize L[k].r = xr at v1 HC
       generalize L[k].w = xw at v2 HC
       clear hkl
       go_wp2_with fail
       with_reducible refine HC.out.mono ?_
       rintro e w1 ⟨rfl,hb1⟩
       have HB1 := Lib.hid (HB.out.trans (hb1.mono HB.out.size))
       clear hb1 HB v0 v1 v2
       go_wp2_with fail
       go_ret
       rw [HI.out]
       exact ⟨rfl,HB1.out⟩
     | false =>
       have HI := Lib.hid (RuleT.idx_next L pr k hkl HLe.out hB.symm)
       clear hB
       generalize L[k].r = xr at v1 HC
       generalize L[k].w = xw at v2 HC
       clear hkl
       go_wp2_with fail
       with_reducible refine HC.out.mono ?_
       rintro e w1 ⟨rfl,hb1⟩
       have HB1 := Lib.hid (HB.out.trans (hb1.mono HB.out.size))
       clear hb1 HB v0 v1 v2
       go_wp2_with fail
       go_roundw
       case rel => exact ⟨k + 1,by omega,HI.out,by go_num,HB1⟩
       case measure => simp [intOf]; omega
   · have d1 : decide ((k : Int) < (n : Int)) = false := decide_eq_false (by omega)
     have HI := Lib.hid (idx_miss (p := pr) (show L.length ≤ L.findIdx pr by have := HLe.out; have := HN.out; omega))
     go_wp2_with fail
     go_ret
     rw [HI.out]
     exact ⟨rfl,HB.out⟩
theorem hasf_s (fu : FuncId) (hE : ∀ (args : Array Value) (W : World),(callFunc fu args).run Tryz.prog W = .ok (.enter fu args) W) (cap : Array Value) (pr : List UInt8 → Bool) (q : Option Addr) (L : List (List UInt8)) (n c : Nat) (w : World) (h : RowIn strE w q n c L)
    (hF : ∀ W,Below w.heap.size w W → ∀ X : ByteArray,X.data.toList ∈ L → Calls Tryz.prog fu (#[.string X] ++ cap) W fun e w' => e = .returned (.bool (pr X.data.toList)) ∧ Below W.heap.size W w') :
    Calls Tryz.prog 57 #[.slice q n c,.func (.func fu) #[] cap] w fun e w' => e = .returned (.bool (L.any pr)) ∧ Below w.heap.size w w' := by
  have C := Lib.hid (idxf_s fu hE cap pr q L n c w h hF)
  have hI := idx_any L pr
  generalize idxI L pr = z at C hI
  generalize L.any pr = B at hI ⊢
  clear h hF hE
  go_enter Tryz.func57,Tryz.ntmps57
  go_wp2_with fail
  with_reducible refine C.out.mono ?_
  rintro e w1 ⟨rfl,hb1⟩
  go_wp2_with fail
  go_ret
  exact ⟨rfl,hb1⟩
theorem hasf_g (fu : FuncId) (hE : ∀ (args : Array Value) (W : World),(callFunc fu args).run Tryz.prog W = .ok (.enter fu args) W) (cap : Array Value) (pr : KG → Bool) (q : Option Addr) (L : List KG) (n c : Nat) (w : World) (h : RowIn glE w q n c L)
    (hF : ∀ W,Below w.heap.size w W → ∀ (x : KG) (X : ByteArray),x ∈ L → X.data.toList = x.pat → Calls Tryz.prog fu (#[.agg #[.string X,.bool x.r,.bool x.w]] ++ cap) W fun e w' => e = .returned (.bool (pr x)) ∧ Below W.heap.size W w') :
    Calls Tryz.prog 84 #[.slice q n c,.func (.func fu) #[] cap] w fun e w' => e = .returned (.bool (L.any pr)) ∧ Below w.heap.size w w' := by
  have C := Lib.hid (idxf_g fu hE cap pr q L n c w h hF)
  have hI := idx_any L pr
  generalize idxI L pr = z at C hI
  generalize L.any pr = B at hI ⊢
  clear h hF hE
  go_enter Tryz.func84,Tryz.ntmps84
  go_wp2_with fail
  with_reducible refine C.out.mono ?_
  rintro e w1 ⟨rfl,hb1⟩
  go_wp2_with fail
  go_ret
  exact ⟨rfl,hb1⟩
theorem has_any (q : Option Addr) (L : List (List UInt8)) (n c : Nat) (T : ByteArray) (w : World) (h : RowIn strE w q n c L) :
  Calls Tryz.prog 32 #[.slice q n c,.string T] w fun e w' => e = .returned (.bool (decide (T.data.toList ∈ L))) ∧ w = w' := by
 rcases Nat.eq_zero_or_pos n with h0 | h0
 · subst h0
   have hL : L = [] := List.length_eq_zero_iff.1 h.l
   subst hL
   refine (Tryz.slices_Contains_string_empty q c T w).mono ?_
   rintro e w' ⟨rfl,rfl⟩
   exact ⟨by simp,rfl⟩
 · obtain ⟨b,off,rfl,hbl,hc⟩ := (rs_ss.1 h.r) (by rw [h.l]; exact h0)
   have hl : (L.map fun l => (⟨l.toArray⟩ : ByteArray)).length = n := by rw [List.length_map,h.l]
   refine (Tryz.slices_Contains_string b off n c (L.map fun l => (⟨l.toArray⟩ : ByteArray)) T w (by rw [hl]; exact Nat.le_refl _) (by have := h.f; omega) (fun j hj => by
    rw [List.length_map] at hj
    rw [hc j hj,List.getD_eq_getElem?_getD,List.getElem?_map,List.getElem?_eq_getElem hj]
    rfl)).mono ?_
   rintro e w' ⟨rfl,rfl⟩
   refine ⟨?_,rfl⟩
   have e1 : Lib.containsS ((L.map fun l => (⟨l.toArray⟩ : ByteArray)).take n) T = decide (T.data.toList ∈ L) := by
    rw [List.take_of_length_le (by rw [hl]; exact Nat.le_refl _),Bool.eq_iff_iff,Lib.containsS_iff,decide_eq_true_eq,List.mem_map]
    constructor
    · rintro ⟨l,hm,rfl⟩
      exact hm
    · intro hm
      exact ⟨_,hm,rfl⟩
   rw [e1]
theorem no_row {α : Type} {E : Enc α} {w : World} {n c : Nat} {L : List α} (h : RowIn E w none n c L) : n = 0 ∧ c = 0 ∧ L = [] := by
 have h1 := h.e rfl
 have h2 := h.b
 have h3 : n = 0 := by omega
 exact ⟨h3,h1,List.length_eq_zero_iff.1 (by rw [h.l,h3])⟩
theorem nil_s : ∀ W,(binOp .eql 22 (.slice none 0 0) (.slice none 0 0)).run Tryz.prog W = .ok (.bool true) W := fun W => by kernel_rfl
theorem some_s (a : Addr) (n c : Nat) : ∀ W,(binOp .eql 22 (.slice (some a) n c) (.slice none 0 0)).run Tryz.prog W = .ok (.bool false) W := fun W => by kernel_rfl
set_option maxHeartbeats 1000000 in
theorem clone_s (q : Option Addr) (L : List (List UInt8)) (n c : Nat) (w : World) (h : RowIn strE w q n c L) :
  Calls Tryz.prog 63 #[.slice q n c] w fun e w' => ∃ q' c',e = .returned (.slice q' n c') ∧ OwnR strE w.heap.size w' (.slice q' n c') L ∧ Below w.heap.size w w' := by
 cases q with
 | none =>
   obtain ⟨rfl,rfl,rfl⟩ := no_row h
   clear h
   have e0 := nil_s
   go_enter Tryz.func63,Tryz.ntmps63
   go_wp2_with fail
   go_ret
   exact ⟨none,0,rfl,ownR_nil _ _ _,Below.refl _ _⟩
 | some a =>
   have HN := Lib.hid h.l
   have hf : n ≤ 1048576 := h.f
   have HO0 := Lib.hid (ownR_new strE w.heap.size w w.heap.size rfl (Nat.le_refl _))
   have HB0 := Lib.hid ((Below.refl w.heap.size w).alloc (Nat.le_refl _) (.cells #[] strE.ty))
   have HR1 := Lib.hid (h.keep HB0.out)
   clear h
   have e0 := some_s a n c
   go_enter Tryz.func63,Tryz.ntmps63
   go_wp2_with (at_builtin; refine wpList_append_rs strE (w0 := w) rfl (.tmp 5) (.tmp 6) rfl _ _ rfl HO0.out HB0.out (some a) L n c rfl HN.out HR1.out.r HR1.out.e (by simp; omega) L rfl ?_; intro v' w5 hown1 hb5)
   go_ret
   have hnl := HN.out
   obtain ⟨q',c',rfl,-⟩ := OwnR.ans hown1
   rw [hnl] at hown1 ⊢
   exact ⟨q',c',rfl,hown1,hb5⟩
end Go.Proofs.YtpoinibckmbfcaaGreatDoor.UserM
namespace Go.Proofs.YtpoinibckmbfcaaGreatDoor.UserM
open Go.RowKit Kit StrT RowG RuleT UserT UserR TableMath Low ValT RefUser
open Go.Sort (grow)
set_option linter.unusedVariables false
set_option maxRecDepth 100000
section
variable {α : Type} {E : Enc α}
theorem gr_refl (w : World) (r : Option Nat) : w.grownBy w r := ⟨rfl,rfl,rfl,Nat.le_refl _,fun _ _ _ => rfl⟩
theorem gr_below {w w' : World} (h : Below w.heap.size w w') (r : Option Nat) : w.grownBy w' r := ⟨h.os,h.tape,h.output,h.size,fun k hk _ => h.block k hk⟩
theorem gr_trans {w w1 w2 : World} {r : Option Nat} (h : w.grownBy w1 r) (h2 : w1.grownBy w2 r) : w.grownBy w2 r :=
 ⟨h2.os.trans h.os,h2.tape.trans h.tape,h2.output.trans h.output,Nat.le_trans h.size h2.size,fun k hk hr => (h2.block k (Nat.lt_of_lt_of_le hk h.size) hr).trans (h.block k hk hr)⟩
structure StepR (E : Enc α) (w0 w w' : World) (v v' : Value) (L' : List α) : Prop where
 bl : Below w0.heap.size w0 w'
 ow : OwnR E w0.heap.size w' v' L'
 gr : w.grownBy w' v.ownBlock
def StepP (E : Enc α) (w0 w : World) (v : Value) (L' : List α) (e : Ending) (w' : World) : Prop := ∃ q' c',e = .returned (.slice q' L'.length c') ∧ StepR E w0 w w' v (.slice q' L'.length c') L'
theorem own_num {base : Nat} {w : World} {q : Option Addr} {n c : Nat} {L : List α} (h : OwnR E base w (.slice q n c) L) : L.length = n := by
 rcases h.2 with ⟨e,h0⟩ | ⟨g,cap,cur,e,-⟩
 · injection e with e1 e2 e3
   omega
 · injection e with e1 e2 e3
   exact e2.symm
theorem own_in {base : Nat} {w : World} {q : Option Addr} {n c : Nat} {L : List α} (h : OwnR E base w (.slice q n c) L) (hl : n ≤ 1048576) : RowIn E w q n c L := by
 have hn := own_num h
 obtain ⟨q',c',e,hr,-⟩ := row_ans h (by rw [hn]; exact hl)
 injection e with e1 e2 e3
 subst e1 e3
 rw [hn] at hr
 exact hr
theorem wpList_append_g (E : Enc α) {w0 w : World} {ops : Array Oper} {rest : List Oper} {o : Oper} {a : Act} {Q : Exit → Act → World → Prop} (hgd : o.guard = none) (s x : Operand)
    (ho : o.op = .call { callee := .builtin .append,args := #[s,x],argTypes := #[E.slt,E.slt] })
    (v : Value) (L : List α) (hs : a.eval s = v) (hown : OwnR E w0.heap.size w v L) (hb : Below w0.heap.size w0 w)
    (g : Nat) (u : α) (c : Nat) (hx : a.eval x = .slice (some ⟨g,0,none⟩) 1 c) (hg : ∀ j,j < E.sz → w.cell? ⟨g,j,none⟩ = (E.enc u)[j]?) (hsz : L.length ≤ 1048576)
    (h : ∀ v' w',OwnR E w0.heap.size w' v' (L ++ [u]) → Below w0.heap.size w0 w' → w.grownBy w' v.ownBlock → wpList Tryz.prog ops Q rest (a.put o.dst v') w') : wpList Tryz.prog ops Q (o :: rest) a w := by
  obtain ⟨i0,hi0,hz0,hz1,hzb⟩ := info_parts E.info
  refine wpList_append_own w hgd s x E.slt ho w0.heap.size E.ty i0 E.zero E.sz E.bytes E.und hi0 hz0 hz1 hzb E.zlen E.pos v L.length (flat E L) hs hown ⟨g,0,none⟩ 1 c (E.enc u) hx (by rw [E.len,Nat.one_mul]) (fun j z hz => ?_) (E.one u) (by unfold maxLen; omega) ?_ hb.size ?_
  · have hj : j < E.sz := by rw [← E.len u]; exact (List.getElem?_eq_some_iff.1 hz).1
    rw [Addr.add_lit]
    first
     | rw [hg j hj]; exact hz
     | rw [Nat.zero_add,hg j hj]; exact hz
  · have := E.by64
    have h1 : (L.length + 1) * E.bytes ≤ 1048577 * 256 := Nat.mul_le_mul (by omega) this
    omega
  · intro v' w' h1 h2 _
    refine h v' w' ?_ (hb.grown h2 hb.size (own_base_r hown)) h2
    unfold OwnR
    rw [List.length_append,flat_app,flat_one1]
    exact h1
theorem ownB_ownR {w : World} {base g n cap : Nat} {L : List α} (h : OwnB E w g n cap L) (hg : base ≤ g) : OwnR E base w (.slice (some ⟨g,0,none⟩) n cap) L := by
 obtain ⟨h1,h2,cur,h3,h4,h5,h6⟩ := h
 exact ⟨by rw [flat_len],Or.inr ⟨g,cap,cur,by rw [h1],hg,h3,by rw [h1]; exact h2,by unfold maxLen; omega,h5,by rw [h1]; exact h6⟩⟩
end
theorem nil_g : ∀ W,(binOp .eql 24 (.slice none 0 0) (.slice none 0 0)).run Tryz.prog W = .ok (.bool true) W := fun W => by kernel_rfl
theorem some_g (a : Addr) (n c : Nat) : ∀ W,(binOp .eql 24 (.slice (some a) n c) (.slice none 0 0)).run Tryz.prog W = .ok (.bool false) W := fun W => by kernel_rfl
set_option maxHeartbeats 1000000 in
theorem clone_g (q : Option Addr) (L : List KG) (n c : Nat) (w : World) (h : RowIn glE w q n c L) :
  Calls Tryz.prog 64 #[.slice q n c] w fun e w' => ∃ q' c',e = .returned (.slice q' n c') ∧ OwnR glE w.heap.size w' (.slice q' n c') L ∧ Below w.heap.size w w' := by
 cases q with
 | none =>
   obtain ⟨rfl,rfl,rfl⟩ := no_row h
   clear h
   have e0 := nil_g
   go_enter Tryz.func64,Tryz.ntmps64
   go_wp2_with fail
   go_ret
   exact ⟨none,0,rfl,ownR_nil _ _ _,Below.refl _ _⟩
 | some a =>
   have HN := Lib.hid h.l
   have hf : n ≤ 1048576 := h.f
   have HO0 := Lib.hid (ownR_new glE w.heap.size w w.heap.size rfl (Nat.le_refl _))
   have HB0 := Lib.hid ((Below.refl w.heap.size w).alloc (Nat.le_refl _) (.cells #[] glE.ty))
   have HR1 := Lib.hid (h.keep HB0.out)
   clear h
   have e0 := some_g a n c
   go_enter Tryz.func64,Tryz.ntmps64
   go_wp2_with (at_builtin; refine wpList_append_rs glE (w0 := w) rfl (.tmp 5) (.tmp 6) rfl _ _ rfl HO0.out HB0.out (some a) L n c rfl HN.out HR1.out.r HR1.out.e (by simp; omega) L rfl ?_; intro v' w5 hown1 hb5)
   go_ret
   have hnl := HN.out
   obtain ⟨q',c',rfl,-⟩ := OwnR.ans hown1
   rw [hnl] at hown1 ⊢
   exact ⟨q',c',rfl,hown1,hb5⟩
set_option maxHeartbeats 1000000 in
theorem with_any (w0 w : World) (q : Option Addr) (n c : Nat) (L : List (List UInt8)) (T : ByteArray) (hb : Below w0.heap.size w0 w) (ho : OwnR strE w0.heap.size w (.slice q n c) L) (hm : n ≤ 1048575) :
  Calls Tryz.prog 66 #[.slice q n c,.string T] w (StepP strE w0 w (.slice q n c) (moreL L T.data.toList)) := by
 have C := Lib.hid (has_any q L n c T w (own_in ho (by omega)))
 have HN := Lib.hid (own_num ho)
 have HO := Lib.hid ho
 have HB := Lib.hid hb
 obtain ⟨B,hB⟩ : ∃ B,B = decide (T.data.toList ∈ L) := ⟨_,rfl⟩
 rw [← hB] at C
 cases B with
 | true =>
   have HM := Lib.hid (show moreL L T.data.toList = L from if_pos (of_decide_eq_true hB.symm))
   clear hB ho hb
   go_enter Tryz.func66,Tryz.ntmps66
   go_wp2_with fail
   with_reducible refine C.out.mono ?_
   rintro e w1 ⟨rfl,rfl⟩
   go_wp2_with fail
   go_ret
   rw [HM.out]
   exact ⟨q,c,by rw [HN.out]; rfl,HB.out,by rw [HN.out]; exact HO.out,gr_refl _ _⟩
 | false =>
   have HM := Lib.hid (show moreL L T.data.toList = L ++ [T.data.toList] from if_neg (of_decide_eq_false hB.symm))
   have HO1 := Lib.hid (OwnR.keep ho (show Below w.heap.size w (w.alloc (.cells #[.string T] strE.ty)) from (Below.refl _ _).alloc (Nat.le_refl _) _))
   have HB1 := Lib.hid (hb.alloc hb.size (.cells #[.string T] strE.ty))
   have HC := Lib.hid (rec_new strE w w.heap.size T.data.toList #[.string T] rfl rfl)
   clear hB ho hb
   go_enter Tryz.func66,Tryz.ntmps66
   go_wp2_with fail
   with_reducible refine C.out.mono ?_
   rintro e w1 ⟨rfl,rfl⟩
   go_wp2_with (at_builtin; refine wpList_append_g strE (w0 := w0) rfl (.tmp 9) (.tmp 11) rfl (.slice q n c) L rfl HO1.out HB1.out w.heap.size T.data.toList 1 rfl HC.out (by rw [HN.out]; omega) ?_; intro v' w7 hown hb7 hg7)
   go_ret
   rw [HM.out]
   obtain ⟨q',c',rfl,-⟩ := OwnR.ans hown
   exact ⟨q',c',rfl,hb7,hown,gr_trans (gr_below (Kit.below1 w _) _) hg7⟩
def RBox (W : World) (g : Nat) (T : ByteArray) (a b : Bool) : Prop := ∃ k m : Value,W.heap[g]? = some (.cells #[k,.string T,.bool a,.bool b,m] 29 (0,0))
theorem RBox.lt {W : World} {g : Nat} {T : ByteArray} {a b : Bool} (h : RBox W g T a b) : g < W.heap.size := by
 obtain ⟨k,m,h⟩ := h
 exact (Array.getElem?_eq_some_iff.1 h).1
theorem RBox.keep {W W' : World} {g : Nat} {T : ByteArray} {a b : Bool} (h : RBox W g T a b) (hb : Below W.heap.size W W') : RBox W' g T a b := by
 have hl := h.lt
 obtain ⟨k,m,h⟩ := h
 exact ⟨k,m,by rw [hb.block _ hl]; exact h⟩
theorem RBox.other {W W' : World} {g : Nat} {T : ByteArray} {a b : Bool} (h : RBox W g T a b) (hb : W'.heap[g]? = W.heap[g]?) : RBox W' g T a b := by
 obtain ⟨k,m,h⟩ := h
 exact ⟨k,m,by rw [hb]; exact h⟩
theorem RBox.cells {W : World} {g : Nat} {T : ByteArray} {a b : Bool} (h : RBox W g T a b) : W.cell? ⟨g,1,none⟩ = some (.string T) ∧ W.cell? ⟨g,2,none⟩ = some (.bool a) ∧ W.cell? ⟨g,3,none⟩ = some (.bool b) := by
 obtain ⟨k,m,h⟩ := h
 refine ⟨?_,?_,?_⟩ <;> rw [cell_of_row _ _ _ _ _ _ h] <;> rfl
theorem unhash_x (args : Array Value) (W : World) : (callFunc 68 args).run Tryz.prog W = .ok (.enter 68 args) W := by kernel_rfl
theorem same_str (X T : ByteArray) : (X.toList == T.toList) = decide (X.data.toList = T.data.toList) := by
 rw [ByteArray.toList_eq,ByteArray.toList_eq,Bool.eq_iff_iff,beq_iff_eq,decide_eq_true_eq]
theorem unhash_c (X T : ByteArray) (a b : Bool) (g : Nat) (W : World) (h : RBox W g T a b) :
  Calls Tryz.prog 68 (#[.string X] ++ #[.pointer (some ⟨g,0,none⟩)]) W fun e w' => e = .returned (.bool (decide (X.data.toList = T.data.toList))) ∧ Below W.heap.size W w' := by
 obtain ⟨c1,c2,c3⟩ := h.cells
 have e0 := same_str X T
 generalize decide (X.data.toList = T.data.toList) = B at e0 ⊢
 clear h
 show Calls Tryz.prog 68 #[.string X,.pointer (some ⟨g,0,none⟩)] W _
 go_enter Tryz.func68,Tryz.ntmps68
 go_wp2_with fail
 go_ret
 exact ⟨rfl,Below.refl _ _⟩
theorem keyed_x (args : Array Value) (W : World) : (callFunc 107 args).run Tryz.prog W = .ok (.enter 107 args) W := by kernel_rfl
theorem keyed_c (X T : ByteArray) (xr xw a b : Bool) (g : Nat) (W : World) (h : RBox W g T a b) :
  Calls Tryz.prog 107 (#[.agg #[.string X,.bool xr,.bool xw]] ++ #[.pointer (some ⟨g,0,none⟩)]) W fun e w' => e = .returned (.bool (decide (X.data.toList = T.data.toList))) ∧ Below W.heap.size W w' := by
 have hb := Kit.below1 W (.cells #[.string X,.bool xr,.bool xw] 55)
 obtain ⟨c1,c2,c3⟩ := (h.keep hb).cells
 have e0 := same_str X T
 generalize decide (X.data.toList = T.data.toList) = B at e0 ⊢
 have HB := Lib.hid hb
 clear h hb
 show Calls Tryz.prog 107 #[.agg #[.string X,.bool xr,.bool xw],.pointer (some ⟨g,0,none⟩)] W _
 go_enter Tryz.func107,Tryz.ntmps107
 go_wp2_with fail
 go_ret
 exact ⟨rfl,HB.out⟩
end Go.Proofs.YtpoinibckmbfcaaGreatDoor.UserM
