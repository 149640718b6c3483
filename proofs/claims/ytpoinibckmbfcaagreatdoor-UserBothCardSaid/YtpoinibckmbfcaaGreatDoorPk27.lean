/-
  Packed by program.
-/
import Derived.MapKept
import Derived.Carry
import Derived.Lib.IndexMore
import Derived.Laws.Bits64b
import Derived.Test.YtpoinibckmbfcaaGreatDoorPk24
namespace Go.Proofs.YtpoinibckmbfcaaGreatDoor.MapT
open Go.RowKit Kit Go.MapKept
set_option linter.unusedVariables false
set_option maxRecDepth 100000
def MapAt (w : World) (b : Nat) (L : List (List UInt8 × Value)) : Prop :=
 ∃ es clock,w.heap[b]? = some (.map es clock) ∧ es.toList.map (fun e => (e.key,e.val)) = L.map (fun p => (.string ⟨p.1.toArray⟩,p.2))
theorem MapAt.new (w : World) : MapAt (w.alloc (.map #[] 0)) w.heap.size [] := ⟨#[],0,(heap_alloc w _).1,rfl⟩
theorem MapAt.lt {w : World} {b : Nat} {L : List (List UInt8 × Value)} (h : MapAt w b L) : b < w.heap.size := by
 obtain ⟨es,clock,hb,_⟩ := h
 exact (Array.getElem?_eq_some_iff.1 hb).1
theorem MapAt.keep {w w' : World} {b : Nat} {L : List (List UInt8 × Value)} (h : MapAt w b L) (hb : Below w.heap.size w w') : MapAt w' b L := by
 have hlt := h.lt
 obtain ⟨es,clock,hh,h2⟩ := h
 exact ⟨es,clock,(hb.block b hlt).trans hh,h2⟩
theorem MapAt.drew {w : World} {b : Nat} {L : List (List UInt8 × Value)} (h : MapAt w b L) : MapAt w.drew b L := h
theorem map_keys {es : List MapEntry} {L : List (List UInt8 × Value)} (h : es.map (fun e => (e.key,e.val)) = L.map (fun p => (.string ⟨p.1.toArray⟩,p.2))) : ∀ x ∈ es,∃ p ∈ L,x.key = .string ⟨p.1.toArray⟩ ∧ x.val = p.2 := by
 intro x hx
 have h1 : (x.key,x.val) ∈ L.map (fun p => ((.string ⟨p.1.toArray⟩ : Value),p.2)) := by
  rw [← h]
  exact List.mem_map.2 ⟨x,hx,rfl⟩
 obtain ⟨p,hp,e⟩ := List.mem_map.1 h1
 injection e with e1 e2
 exact ⟨p,hp,e1.symm,e2.symm⟩
theorem key_same {a b : List UInt8} (h : (Value.string ⟨a.toArray⟩) = .string ⟨b.toArray⟩) : a = b := by
 injection h with h
 injection h with h
 simpa using congrArg Array.toList h
theorem below_mapped {B : Nat} {w0 w : World} (h : Below B w0 w) {b : Nat} (hB : B ≤ b) (o : Obj) : Below B w0 { w with heap := w.heap.setIfInBounds b o } :=
 h.trans ⟨rfl,rfl,rfl,by simp,fun k hk => by simp [show ¬ b = k by omega]⟩
theorem wpList_insert_lit {P : Program} {w0 w : World} {ops : Array Oper} {rest : List Oper} {o : Oper} {a : Act} {Q : Exit → Act → World → Prop} (hgd : o.guard = none) (t : TypeId) (m v : Operand) (S : ByteArray) (ho : o.op = .insert t m (.const (.string S)) v)
    (k e : TypeId) (ht : P.underlying t = some (.map k e)) (hk : P.underlying k = some .string) (B b : Nat) (hm : a.eval m = .map (some b)) (L : List (List UInt8 × Value)) (i : Nat) (h : MapAt w b (L.take i)) (hnd : (L.map (·.1)).Nodup)
    (hb : Below B w0 w) (hB : B ≤ b) (hi : L[i]? = some (S.data.toList,a.eval v))
    (hK : ∀ w',MapAt w' b (L.take (i + 1)) → Below B w0 w' → wpList P ops Q rest (a.put o.dst undef) w') : wpList P ops Q (o :: rest) a w := by
  refine wpList_plain hgd fun K hK' => ?_
  obtain ⟨V,hv⟩ : ∃ V,V = a.eval v := ⟨_,rfl⟩
  rw [← hv] at hi
  have hx : a.eval (.const (.string S)) = .string S := rfl
  obtain ⟨es,clock,hh,hes⟩ := h
  obtain ⟨hil,hie⟩ := List.getElem?_eq_some_iff.1 hi
  have hks : ∀ y ∈ es.toList,IsKey .string y.key := fun y hy => by
   obtain ⟨p,_,e1,_⟩ := map_keys hes y hy
   rw [e1]
   trivial
  have hnew : ∀ y ∈ es.toList,y.key ≠ .string S := fun y hy hS => by
   obtain ⟨p,hp,e1,_⟩ := map_keys hes y hy
   have e2 : p.1 = S.data.toList := key_same (e1.symm.trans hS)
   obtain ⟨j,hj,hpj⟩ := List.getElem_of_mem hp
   rw [List.length_take] at hj
   rw [List.getElem_take] at hpj
   have := List.pairwise_iff_getElem.1 hnd j i (by rw [List.length_map]; omega) (by rw [List.length_map]; exact hil) (by omega)
   apply this
   rw [List.getElem_map,List.getElem_map,hpj,hie,e2]
  rcases findNow_spec (d := .string) (k := .string S) trivial es.toList 0 hks with ⟨h1,h2⟩ | ⟨j,e0,h1,h2,h3⟩
  · unfold Oper.wp
    have hrun : (Instr.mapUpdate t (.map (some b)) (.string S) V).run P w = .ok () { w with heap := w.heap.setIfInBounds b (.map (es.push { key := .string S,val := V,born := clock }) (clock + 1)) } := by
     simp [Instr.mapUpdate,run_underlying ht,Go.MapKept.run_getObj_map hh,Go.MapKept.run_checkKey hk (d := .string) (k := .string S) trivial,Go.MapKept.run_findKey hk h1,Go.MapKept.run_setObj_map _ hh,Result.andThen]
    simp [execOp,ho,hm,hx,← hv,hrun,Result.andThen]
    refine hK' _ _ (hK _ ⟨_,_,(heap_set hh).1,?_⟩ (below_mapped hb hB _))
    rw [List.take_succ_eq_append_getElem hil,List.map_append,Array.toList_push,List.map_append,hes,hie]
    rfl
  · exact absurd h3 (hnew e0 (List.mem_of_getElem? h2))
def getM (L : List (List UInt8 × Value)) (k : List UInt8) (Z : Value) : Value := match L.find? (fun p => decide (p.1 = k)) with | some p => p.2 | none => Z
theorem find_lit (k : List UInt8) : ∀ (es : List MapEntry) (L : List (List UInt8 × Value)) (i : Nat),es.map (fun e => (e.key,e.val)) = L.map (fun p => (.string ⟨p.1.toArray⟩,p.2)) →
  ∃ r,Instr.findNow .string (.string ⟨k.toArray⟩) es i = some r ∧ ∀ Z,(match r with | some (_,v) => v | none => Z) = getM L k Z
 | [],[],_,_ => ⟨none,rfl,fun _ => rfl⟩
 | [],_ :: _,_,h => by simp at h
 | _ :: _,[],_,h => by simp at h
 | e :: es,p :: L,i,h => by
   rw [List.map_cons,List.map_cons] at h
   injection h with h1 h2
   injection h1 with h3 h4
   obtain ⟨r,hr,hiff⟩ := sameNow_of_keys (d := .string) (a := .string ⟨k.toArray⟩) (b := e.key) trivial (by rw [h3]; trivial)
   cases r with
   | true =>
     have e1 : k = p.1 := key_same ((hiff.1 rfl).trans h3)
     exact ⟨some (i,e.val),by simp [Instr.findNow,hr],fun Z => by simp [getM,e1,h4]⟩
   | false =>
     have e1 : ¬ p.1 = k := fun h => by
      have := hiff.2 (by rw [h3,h])
      cases this
     obtain ⟨r,hr2,hz⟩ := find_lit k es L (i + 1) h2
     refine ⟨r,by simp [Instr.findNow,hr,hr2],fun Z => ?_⟩
     rw [hz Z]
     simp [getM,e1]
end Go.Proofs.YtpoinibckmbfcaaGreatDoor.MapT
namespace Go.Proofs.YtpoinibckmbfcaaGreatDoor.MapT
open Go.RowKit Kit Go.MapKept
set_option linter.unusedVariables false
set_option maxRecDepth 100000
theorem lookup_ok {P : Program} {t k e : TypeId} (ht : P.underlying t = some (.map k e)) (hk : P.underlying k = some .string) {W : World} {b : Nat} {L : List (List UInt8 × Value)} (h : MapAt W b L) (T : ByteArray) (V : Value) (hV : ∀ Z,getM L T.data.toList Z = V) :
  (Instr.lookup t (.map (some b)) (.string T) true).run P W = .ok (.tuple #[V,.bool true]) W := by
 obtain ⟨es,clock,hh,hes⟩ := h
 obtain ⟨r,hr,hZ⟩ := find_lit T.data.toList es.toList L 0 hes
 have hr' : Instr.findNow .string (.string T) es.toList 0 = some r := hr
 cases r with
 | none =>
   have h1 := (hZ (.bool true)).trans (hV _)
   have h2 := (hZ (.bool false)).trans (hV _)
   have h3 : (Value.bool true) = .bool false := h1.trans h2.symm
   cases h3
 | some q =>
   have h1 : q.2 = V := (hZ (.bool true)).trans (hV _)
   subst h1
   simp [Instr.lookup,run_underlying ht,Go.MapKept.run_getObj_map hh,Go.MapKept.run_checkKey hk (d := .string) (k := .string T) trivial,Go.MapKept.run_findKey hk hr',Result.andThen]
end Go.Proofs.YtpoinibckmbfcaaGreatDoor.MapT
namespace Go.Proofs.YtpoinibckmbfcaaGreatDoor.RuleK
open Go.RowKit Kit TableMath Low StrT RuleT RefRule MapT Go.MapKept
set_option linter.unusedVariables false
set_option maxRecDepth 100000
theorem lookup_no {P : Program} {t k e : TypeId} (ht : P.underlying t = some (.map k e)) (hk : P.underlying k = some .string) {W : World} {b : Nat} {L : List (List UInt8 × Value)} (h : MapAt W b L) (T : ByteArray) (Z : Value) (hz : (zeroValue e).run P W = .ok Z W) (hno : ∀ Z',getM L T.data.toList Z' = Z') :
  (Instr.lookup t (.map (some b)) (.string T) true).run P W = .ok (.tuple #[Z,.bool false]) W := by
 obtain ⟨es,clock,hh,hes⟩ := h
 obtain ⟨r,hr,hZ⟩ := find_lit T.data.toList es.toList L 0 hes
 have hr' : Instr.findNow .string (.string T) es.toList 0 = some r := hr
 cases r with
 | none => simp [Instr.lookup,run_underlying ht,Go.MapKept.run_getObj_map hh,Go.MapKept.run_checkKey hk (d := .string) (k := .string T) trivial,Go.MapKept.run_findKey hk hr',hz,Result.andThen]
 | some q =>
   have h1 : q.2 = .bool true := (hZ (.bool true)).trans (hno _)
   have h2 : q.2 = .bool false := (hZ (.bool false)).trans (hno _)
   have h3 : (Value.bool true) = .bool false := h1.symm.trans h2
   cases h3
def cutT : List UInt8 → List UInt8 × List UInt8
  | [] => ([],[])
  | c :: r => if c = 126 then ([],r) else (c :: (cutT r).1,(cutT r).2)
theorem cut_is : ∀ l : List UInt8,(Lib.cut l [126]).1 = (cutT l).1 ∧ (Lib.cut l [126]).2.1 = (cutT l).2
  | [] => ⟨rfl,rfl⟩
  | c :: r => by
    obtain ⟨h1,h2⟩ := cut_is r
    by_cases hc : c = 126
    · subst hc
      exact ⟨rfl,rfl⟩
    · have hge := Lib.index_ge r [126]
      have hp : ([126] : List UInt8).isPrefixOf (c :: r) = false := by
       simp [List.isPrefixOf]
       exact fun h => hc h.symm
      rw [show cutT (c :: r) = (c :: (cutT r).1,(cutT r).2) from if_neg hc]
      by_cases hi : Lib.index r [126] = -1
      · have hj : Lib.index (c :: r) [126] = -1 := by
         rw [Lib.index,hp,hi]
         rfl
        unfold Lib.cut at h1 h2 ⊢
        rw [hi] at h1 h2
        rw [hj]
        simp at h1 h2 ⊢
        exact ⟨h1,h2⟩
      · obtain ⟨n,hn⟩ : ∃ n : Nat,Lib.index r [126] = n := ⟨(Lib.index r [126]).toNat,by omega⟩
        have hj : Lib.index (c :: r) [126] = ((n + 1 : Nat) : Int) := by
         rw [Lib.index,hp,hn]
         have : ((n : Int) == -1) = false := by simp
         simp [this]
        unfold Lib.cut at h1 h2 ⊢
        rw [hn] at h1 h2
        rw [hj]
        have e1 : (0 : Int) ≤ (n : Int) := by omega
        have e2 : (0 : Int) ≤ ((n + 1 : Nat) : Int) := by omega
        rw [if_pos e1] at h1 h2
        rw [if_pos e2]
        simp at h1 h2 ⊢
        first | exact ⟨h1,h2⟩ | exact h1
theorem cut_spec : ∀ l : List UInt8,(126 ∉ l ∧ cutT l = (l,[])) ∨ (∃ h t,l = h ++ 126 :: t ∧ 126 ∉ h ∧ cutT l = (h,t))
  | [] => Or.inl ⟨by simp,rfl⟩
  | c :: r => by
    by_cases hc : c = 126
    · subst hc
      exact Or.inr ⟨[],r,rfl,by simp,rfl⟩
    · have e : cutT (c :: r) = (c :: (cutT r).1,(cutT r).2) := if_neg hc
      rcases cut_spec r with ⟨h1,h2⟩ | ⟨h,t,h1,h2,h3⟩
      · refine Or.inl ⟨by simp only [List.mem_cons,not_or]; exact ⟨fun h => hc h.symm,h1⟩,?_⟩
        rw [e,h2]
      · refine Or.inr ⟨c :: h,t,by rw [h1]; rfl,by simp only [List.mem_cons,not_or]; exact ⟨fun h => hc h.symm,h2⟩,?_⟩
        rw [e,h3]
def atL (L : List (List UInt8 × RV)) (s : List UInt8) : Option RV := (L.find? fun p => decide (p.1 = s)).map (·.2)
def mapV (L : List (List UInt8 × RV)) : List (List UInt8 × Value) := L.map fun p => (p.1,p.2.agg)
theorem get_mapV (L : List (List UInt8 × RV)) (s : List UInt8) (Z : Value) : getM (mapV L) s Z = (match atL L s with | some v => v.agg | none => Z) := by
 unfold getM mapV atL
 rw [List.find?_map]
 have e : ((fun p : List UInt8 × Value => decide (p.1 = s)) ∘ fun p : List UInt8 × RV => (p.1,p.2.agg)) = fun p : List UInt8 × RV => decide (p.1 = s) := rfl
 rw [e]
 cases L.find? fun p : List UInt8 × RV => decide (p.1 = s) <;> rfl
theorem get_yes {L : List (List UInt8 × RV)} {s : List UInt8} {v : RV} (h : atL L s = some v) (Z : Value) : getM (mapV L) s Z = v.agg := by rw [get_mapV,h]
theorem get_no {L : List (List UInt8 × RV)} {s : List UInt8} (h : atL L s = none) (Z : Value) : getM (mapV L) s Z = Z := by rw [get_mapV,h]
theorem at_mem {L : List (List UInt8 × RV)} {s : List UInt8} {v : RV} (h : atL L s = some v) : (s,v) ∈ L := by
 unfold atL at h
 cases hf : L.find? fun p => decide (p.1 = s) with
 | none => rw [hf] at h; cases h
 | some p =>
   rw [hf] at h
   have h1 : p.2 = v := Option.some.inj h
   have h2 : p.1 = s := by simpa using List.find?_some hf
   have h3 := List.mem_of_find?_eq_some hf
   rw [← h1,← h2]
   exact h3
theorem at_none {L : List (List UInt8 × RV)} {s : List UInt8} (h : atL L s = none) : ∀ p ∈ L,p.1 ≠ s := by
 unfold atL at h
 intro p hp
 have hf := (List.find?_eq_none.1 (Option.map_eq_none_iff.1 h)) p hp
 simpa using hf
def wholeL : List (List UInt8 × RV) := [([111,110],⟨1,[],false,false,0⟩),([111,102,102],⟨2,[],false,false,0⟩),([110,111,112,97,115,115],⟨3,[],false,false,0⟩),([114,101,115,101,116,112,97,115,115],⟨4,[],false,false,0⟩),([114,101,115,101,116,107,101,121,115],⟨11,[],false,false,0⟩),([114,101,115,101,116,99,104,97,110,110,101,108,115],⟨13,[],false,false,0⟩),([114,101,115,101,116],⟨14,[],false,false,0⟩),([97,108,108,99,111,109,109,97,110,100,115],⟨8,[],false,false,72057594037927935⟩),([110,111,99,111,109,109,97,110,100,115],⟨9,[],false,false,72057594037927935⟩),([97,108,108,107,101,121,115],⟨10,[42],true,true,0⟩),([97,108,108,99,104,97,110,110,101,108,115],⟨12,[42],false,false,0⟩)]
def headsL : List (List UInt8 × RV) := [([],⟨10,[],true,true,0⟩),([37,82],⟨10,[],true,false,0⟩),([37,87],⟨10,[],false,true,0⟩),([37,82,87],⟨10,[],true,true,0⟩)]
theorem whole_nodup : ((mapV wholeL).map (·.1)).Nodup := by decide +kernel
theorem heads_nodup : ((mapV headsL).map (·.1)).Nodup := by decide +kernel
theorem whole_all : wholeL.all (fun p => decide (ruleD p.1 = some p.2)) = true := by decide +kernel
theorem whole_yes {s : List UInt8} {v : RV} (h : atL wholeL s = some v) : ruleD s = some v := by
 have := List.all_eq_true.1 whole_all _ (at_mem h)
 exact of_decide_eq_true this
theorem rule_empty : ruleD [] = none := by decide +kernel
theorem heads_all : headsL.all (fun p => decide (p.2.s = [] ∧ p.2.mask = 0 ∧ p.2.kind = 10)) = true := by decide +kernel
theorem heads_has {s : List UInt8} {v : RV} (h : atL headsL s = some v) : v = ⟨10,[],v.r,v.w,0⟩ := by
 obtain ⟨h1,h2,h3⟩ := of_decide_eq_true (List.all_eq_true.1 heads_all _ (at_mem h))
 cases v
 simp only at h1 h2 h3
 rw [h1,h2,h3]
def keysD (l : List UInt8) : Option RV :=
 match atL headsL (cutT l).1 with
 | some v => patD 10 (cutT l).2 v.r v.w
 | none => none
theorem pat_empty (k : Nat) (a b : Bool) : patD k [] a b = none := rfl
theorem word_first {c : UInt8} {r : List UInt8} (h : atL wholeL (c :: r) = none) : otherD (c :: r) = c :: r ∧ plainD (c :: r) = none := by
 have hw : ∀ i (hi : i < 11),(wholeL[i]'hi).1 ≠ c :: r := fun i hi => at_none h _ (List.getElem_mem _)
 refine ⟨?_,?_⟩
 · unfold otherD allC noC allKy allCh
   rw [if_neg (fun e => hw 7 (by decide) e.symm),if_neg (fun e => hw 8 (by decide) e.symm),if_neg (fun e => hw 9 (by decide) e.symm),if_neg (fun e => hw 10 (by decide) e.symm)]
 · apply plain_none
   have a1 := plain_next (s := c :: r) 0 (by decide) (Nat.zero_le _) (hw 0 (by decide))
   have a2 := plain_next 1 (by decide) a1 (hw 1 (by decide))
   have a3 := plain_next 2 (by decide) a2 (hw 2 (by decide))
   have a4 := plain_next 3 (by decide) a3 (hw 3 (by decide))
   have a5 := plain_next 4 (by decide) a4 (hw 4 (by decide))
   have a6 := plain_next 5 (by decide) a5 (hw 5 (by decide))
   exact plain_next 6 (by decide) a6 (hw 6 (by decide))
theorem none_first {c : UInt8} {r : List UInt8} (h : atL wholeL (c :: r) = none) (h62 : c ≠ 62) (h35 : c ≠ 35) (h33 : c ≠ 33) (h43 : c ≠ 43) (h45 : c ≠ 45) (h126 : c ≠ 126) (h37 : c ≠ 37) (h38 : c ≠ 38) : ruleD (c :: r) = none := by
 obtain ⟨e1,e2⟩ := word_first h
 unfold ruleD
 rw [e1]
 have a1 := mark_next (s := c :: r) 0 (by decide) (Nat.zero_le _) (fun e => h62 (List.cons.inj e).1)
 have a2 := mark_next 1 (by decide) a1 (fun e => h35 (List.cons.inj e).1)
 have a3 := mark_next 2 (by decide) a2 (fun e => h33 (List.cons.inj e).1)
 have a4 := mark_next 3 (by decide) a3 (fun e => h43 (List.cons.inj e).1)
 have a5 := mark_next 4 (by decide) a4 (fun e => h45 (List.cons.inj e).1)
 have a6 := mark_next 5 (by decide) a5 (fun e => h126 (List.cons.inj e).1)
 have a7 := mark_next 6 (by decide) a6 (fun e => h37 (List.cons.inj e).1)
 have a8 := mark_next 7 (by decide) a7 (fun e => h37 (List.cons.inj e).1)
 have a9 := mark_next 8 (by decide) a8 (fun e => h37 (List.cons.inj e).1)
 exact mark_none e2 (mark_next 9 (by decide) a9 (fun e => h38 (List.cons.inj e).1))
theorem pct_none {r : List UInt8} (h1 : r.take 2 ≠ [82,126]) (h2 : r.take 2 ≠ [87,126]) (h3 : r.take 3 ≠ [82,87,126]) : ruleD (37 :: r) = none := by
 unfold ruleD
 rw [other_of (by decide) (by decide)]
 have a1 := mark_next (s := 37 :: r) 0 (by decide) (Nat.zero_le _) (fun e => absurd (List.cons.inj e).1 (by decide))
 have a2 := mark_next 1 (by decide) a1 (fun e => absurd (List.cons.inj e).1 (by decide))
 have a3 := mark_next 2 (by decide) a2 (fun e => absurd (List.cons.inj e).1 (by decide))
 have a4 := mark_next 3 (by decide) a3 (fun e => absurd (List.cons.inj e).1 (by decide))
 have a5 := mark_next 4 (by decide) a4 (fun e => absurd (List.cons.inj e).1 (by decide))
 have a6 := mark_next 5 (by decide) a5 (fun e => absurd (List.cons.inj e).1 (by decide))
 have a7 := mark_next 6 (by decide) a6 (fun e => h1 (List.cons.inj e).2)
 have a8 := mark_next 7 (by decide) a7 (fun e => h2 (List.cons.inj e).2)
 have a9 := mark_next 8 (by decide) a8 (fun e => h3 (List.cons.inj e).2)
 exact mark_none (plain_of (by decide) (by decide) (by decide)) (mark_next 9 (by decide) a9 (fun e => absurd (List.cons.inj e).1 (by decide)))
theorem take_cut2 {h t : List UInt8} {c : UInt8} (hh : 126 ∉ h) (hc : c ≠ 126) (e : (h ++ 126 :: t).take 2 = [c,126]) : h = [c] := by
 match h,hh,e with
 | [],_,e => exact absurd (List.cons.inj e).1.symm hc
 | [a],_,e => rw [show a = c from (List.cons.inj e).1]
 | a :: b :: h,hh,e =>
   have : b = 126 := (List.cons.inj (List.cons.inj e).2).1
   exact absurd (by rw [this]; simp) hh
theorem take_cut3 {h t : List UInt8} {c d : UInt8} (hh : 126 ∉ h) (hc : c ≠ 126) (hd : d ≠ 126) (e : (h ++ 126 :: t).take 3 = [c,d,126]) : h = [c,d] := by
 match h,hh,e with
 | [],_,e => exact absurd (List.cons.inj e).1.symm hc
 | [a],_,e => exact absurd (List.cons.inj (List.cons.inj e).2).1.symm hd
 | [a,b],_,e => rw [show a = c from (List.cons.inj e).1,show b = d from (List.cons.inj (List.cons.inj e).2).1]
 | a :: b :: x :: h,hh,e =>
   have : x = 126 := (List.cons.inj (List.cons.inj (List.cons.inj e).2).2).1
   exact absurd (by rw [this]; simp) hh
theorem rule_keys {c : UInt8} {r : List UInt8} (h : c = 126 ∨ c = 37) : ruleD (c :: r) = keysD (c :: r) := by
 rcases h with rfl | rfl
 · rw [rule_both]
   rfl
 · have e : cutT (37 :: r) = (37 :: (cutT r).1,(cutT r).2) := rfl
   rcases cut_spec r with ⟨h1,h2⟩ | ⟨h,t,h1,h2,h3⟩
   · have hk : keysD (37 :: r) = none := by
      unfold keysD
      rw [e,h2]
      cases atL headsL (37 :: r) with
      | none => rfl
      | some v => exact pat_empty _ _ _
     rw [hk]
     have hno : ∀ n (L : List UInt8),126 ∈ L → r.take n ≠ L := fun n L hL e => h1 (List.mem_of_mem_take (i := n) (by rw [e]; exact hL))
     exact pct_none (hno _ _ (by simp)) (hno _ _ (by simp)) (hno _ _ (by simp))
   · by_cases g1 : h = [82]
     · subst g1 h1
       rw [show ([82] ++ 126 :: t : List UInt8) = 82 :: 126 :: t from rfl,rule_read]
       rfl
     · by_cases g2 : h = [87]
       · subst g2 h1
         rw [show ([87] ++ 126 :: t : List UInt8) = 87 :: 126 :: t from rfl,rule_write]
         rfl
       · by_cases g3 : h = [82,87]
         · subst g3 h1
           rw [show ([82,87] ++ 126 :: t : List UInt8) = 82 :: 87 :: 126 :: t from rfl,rule_rw]
           rfl
         · have hk : keysD (37 :: r) = none := by
            unfold keysD
            rw [e,h3]
            have : atL headsL (37 :: h) = none := by
             cases ha : atL headsL (37 :: h) with
             | none => rfl
             | some v =>
               have := at_mem ha
               simp [headsL] at this
               rcases this with ⟨h',_⟩ | ⟨h',_⟩ | ⟨h',_⟩
               · exact absurd h' g1
               · exact absurd h' g2
               · exact absurd h' g3
            rw [this]
           rw [hk,h1]
           exact pct_none (fun e => g1 (take_cut2 h2 (by decide) e)) (fun e => g2 (take_cut2 h2 (by decide) e)) (fun e => g3 (take_cut3 h2 (by decide) (by decide) e))
end Go.Proofs.YtpoinibckmbfcaaGreatDoor.RuleK
namespace Go.Proofs.YtpoinibckmbfcaaGreatDoor.TableM
open Go.RowKit Kit TableMath
set_option linter.unusedVariables false
set_option maxRecDepth 100000
theorem wpList_buildC {P : Program} {ops : Array Oper} {rest : List Oper} {o : Oper} {a : Act} {w : World} {Q : Exit → Act → World → Prop} (hgd : o.guard = none) (t : TypeId) (parts : Array (Nat × Operand)) (ho : o.op = .build t parts)
    (cells : Array Value) (hc : P.built t (parts.map fun (i,x) => (i,a.eval x)).toList = some cells) (h : wpList P ops Q rest (a.put o.dst (.agg cells)) w) : wpList P ops Q (o :: rest) a w :=
  wpList_plain hgd fun _ hK => wp_build t parts ho (by rw [hc]; rfl) (by rw [hc]; exact hK _ _ h)
def rowsC : Array Value := (flatV cmds).toArray
def rows0 : Array Value := (List.replicate 56 [.string ByteArray.empty,.int .i64 0,.int .u16 0]).flatten.toArray
theorem rows_info : (Tryz.prog.info? 137).map (fun i => (i.zero,i.size)) = some (some (.agg rows0),168) := by kernel_rfl
theorem rowsC_size : rowsC.size = 168 := by decide +kernel
theorem rowsC_one : rowsC.all (·.oneCell') = true := by decide +kernel
set_option maxHeartbeats 4000000 in
theorem rows_any (w : World) : Calls Tryz.prog 123 #[] w fun e w' => e = .returned (.agg rowsC) ∧ Below w.heap.size w w' := by
 have hv := (zero_of_info rows_info).1
 have HI := Lib.hid (zero_of_info rows_info).2
 have hz := rowsC_size
 have hz0 : rows0.size = 168 := by decide +kernel
 generalize rows0 = Z at hv hz0
 have HW := Lib.hid (Kit.below1 w (.cells Z 137))
 go_enter Tryz.func123,Tryz.ntmps123
 go_wp2_with (first | (with_reducible refine wpList_buildC rfl 137 _ rfl rowsC (by kernel_rfl) ?_) | (with_reducible refine wpList_store_row rfl 137 (.tmp 0) (.tmp 57) rfl w.heap.size rowsC rfl rfl 137 _ (heap_alloc_last _ _) (by rw [HI.out,hz]) (by rw [hz,hz0]) rowsC_one ?_))
 exact bodyPost_ret (results_cell_row rfl _ _ w.heap.size 137 rowsC (0,0) _ rfl (setRow_heap _ w.heap.size _ _ _ _ (heap_alloc_last _ _)) Tryz.underlying137 rfl (by rw [HI.out,hz])) rfl ⟨rfl,below_setRow HW.out (Nat.le_refl _) _⟩
end Go.Proofs.YtpoinibckmbfcaaGreatDoor.TableM
namespace Go.Proofs.YtpoinibckmbfcaaGreatDoor.TableM
open Go.RowKit Kit TableMath
set_option linter.unusedVariables false
set_option maxRecDepth 100000
theorem tab_set (w : World) (Z : Array Value) : Tab ((w.alloc (.cells Z 137)).setRow w.heap.size rowsC) w.heap.size := ⟨by simp,fun j hj => by
 rw [cell_of_row _ _ _ _ 137 _ (setRow_heap _ w.heap.size _ _ _ _ (heap_alloc_last w _))]
 simp [rowsC]⟩
theorem rowsC_cut (k : Nat) (hk : k < 56) : rowsC.extract (k * 3) (k * 3 + 3) = #[.string ⟨(cmdAt k).name.toArray⟩,.int .i64 (cmdAt k).ar,.int .u16 ((cmdAt k).ct : Int)] := by
 have hs := rowsC_size
 have hf : ∀ d,d < 3 → rowsC[k * 3 + d]? = (cmdV (cmdAt k))[d]? := fun d hd => by
  rw [show rowsC[k * 3 + d]? = (flatV cmds)[k * 3 + d]? by simp [rowsC],Nat.mul_comm k 3,flatV_at cmds k (by rw [cmds_len]; exact hk) d hd,cmdAt_get k hk]
 apply Array.ext_getElem?
 intro j
 by_cases hj : j < 3
 · rw [Array.getElem?_extract,if_pos (by rw [hs]; omega),hf j hj]
   match j,hj with
   | 0,_ => rfl
   | 1,_ => rfl
   | 2,_ => rfl
 · rw [Array.getElem?_eq_none (by rw [Array.size_extract,hs]; omega),Array.getElem?_eq_none (by show 3 ≤ j; omega)]
theorem idx_row (k : Nat) (hk : k < 56) (w : World) : (Instr.index 137 (.agg rowsC) (.int .i64 (k : Int))).run Tryz.prog w = .ok (.agg #[.string ⟨(cmdAt k).name.toArray⟩,.int .i64 (cmdAt k).ar,.int .u16 ((cmdAt k).ct : Int)]) w := by
 have hc := rowsC_cut k hk
 generalize rowsC = C at hc
 simp [Instr.index,run_underlying Tryz.underlying137,asIntOf,part,hk,hc,go_sem]
end Go.Proofs.YtpoinibckmbfcaaGreatDoor.TableM
namespace Go.Proofs.YtpoinibckmbfcaaGreatDoor.LowN
open Go.RowKit Kit Low
set_option linter.unusedVariables false
set_option maxRecDepth 100000
set_option maxHeartbeats 400000 in
theorem lower_any (s : ByteArray) (w : World) (hs : s.size ≤ maxLen) :
  Calls Tryz.prog 151 #[.string s] w fun e w' => e = .returned (.string ⟨(lowL s.data.toList).toArray⟩) ∧ Below w.heap.size w w' := by
 unfold maxLen at hs
 have hconv := fun W => Lib.run_convert_string_bytes (P := Tryz.prog) W 9 30 5 s Tryz.underlying9 Tryz.underlying30 Tryz.underlying5
 have HL := Lib.hid (show s.data.toList.length = s.size by simp)
 go_enter Tryz.func151,Tryz.ntmps151
 go_wp2
 go_loopw [10] (fun i wr => ∃ k : Nat,k ≤ s.size ∧ i = .int .i64 k ∧ Below w.heap.size w wr ∧ Row8 wr w.heap.size (mixL k s.data.toList)) (fun i _ => s.size - (intOf i).toNat)
 case atStart => exact ⟨0,Nat.zero_le _,rfl,bytesWorld_below _ _ _,bytesWorld_row _ _ _⟩
 case round =>
  obtain ⟨k,hk,rfl,hb,hrow⟩ := hrel
  clear hconv
  have HR := Lib.hid hrow
  clear hrow
  by_cases hlt : k < s.size
  · have hlt' : k < s.data.toList.length := by rw [HL.out]; exact hlt
    have hltm : k < (mixL k s.data.toList).length := by rw [mixL_length]; exact hlt'
    have hcell := HR.out.at_ k hltm
    rw [mixL_at k _ hlt'] at hcell
    have hfrz := HR.out.frz k hltm
    obtain ⟨c,hc⟩ : ∃ c,c = s.data.toList[k] := ⟨_,rfl⟩
    rw [← hc] at hcell
    have HC := Lib.hid hc
    clear hc
    have hc255 : c.toNat < 256 := c.toNat_lt
    by_cases h1 : 65 ≤ c.toNat
    · by_cases h2 : c.toNat ≤ 90
      · have hup := Lib.hid (low_up h1 h2)
        go_wp2
        go_roundw
        case rel =>
         refine ⟨k + 1,by omega,by go_num,hb.setCell (Nat.le_refl _) _,?_⟩
         rw [← mixL_set k _ hlt',← HC.out]
         have := HR.out.set k hltm (lowByte c)
         rw [hup.out] at this
         exact this
        case measure => simp [intOf]; omega
      · have hn := Lib.hid (low_not (c := c) (by omega))
        go_wp2
        go_roundw
        case rel => exact ⟨k + 1,by omega,by go_num,hb,by rw [mixL_same k _ hlt' (by rw [← HC.out,hn.out])]; exact HR.out⟩
        case measure => simp [intOf]; omega
    · have hn := Lib.hid (low_not (c := c) (by omega))
      go_wp2
      go_roundw
      case rel => exact ⟨k + 1,by omega,by go_num,hb,by rw [mixL_same k _ hlt' (by rw [← HC.out,hn.out])]; exact HR.out⟩
      case measure => simp [intOf]; omega
  · have hrow := HR.out
    rw [mixL_all k _ (by rw [HL.out]; exact hlt)] at hrow
    have hback := fun cap => run_row_string (P := Tryz.prog) wr 30 5 9 Tryz.underlying30 Tryz.underlying5 Tryz.underlying9 w.heap.size _ hrow s.size cap (by rw [lowL,List.length_map,HL.out])
    clear hrow
    go_wp2
    go_ret
    exact ⟨rfl,hb⟩
end Go.Proofs.YtpoinibckmbfcaaGreatDoor.LowN
namespace Go.Proofs.YtpoinibckmbfcaaGreatDoor.TableM
open Go.RowKit Kit TableMath
set_option linter.unusedVariables false
set_option maxRecDepth 100000
theorem or_next (M j : Nat) (hj : j < 56) (hM : M < 2 ^ j) : bits .or .u64 (M : Int) (IntKind.u64.wrap (2 ^ j)) = ((M + 2 ^ j : Nat) : Int) := by
 have h1 : 2 ^ j ≤ 2 ^ 55 := Nat.pow_le_pow_right (by decide) (by omega)
 have e : (2 : Int) ^ j = ((2 ^ j : Nat) : Int) := by rw [Int.natCast_pow]; rfl
 have h2 := Nat.two_pow_add_eq_or_of_lt hM 1
 rw [Nat.mul_one] at h2
 rw [e]
 obtain ⟨P,hP⟩ : ∃ P,P = 2 ^ j := ⟨_,rfl⟩
 rw [← hP] at h1 hM h2 ⊢
 have e55 : (2 : Nat) ^ 55 = 36028797018963968 := by decide
 rw [e55] at h1
 rw [show IntKind.u64.wrap (P : Int) = (P : Int) by rw [IntKind.wrap_u64]; omega,bits_or_u64_nat M P (by omega) (by omega),Nat.or_comm,← h2,Nat.add_comm]
theorem and16 (a b : Nat) (ha : a < 65536) (hb : b < 65536) : bits .and .u16 (a : Int) (b : Int) = ((a &&& b : Nat) : Int) := by
 have hx : a &&& b ≤ a := Nat.and_le_left
 have h1 : (BitVec.ofInt 16 (a : Int)).toNat = a := by
  rw [BitVec.ofInt_natCast,BitVec.toNat_ofNat]; exact Nat.mod_eq_of_lt (by omega)
 have h2 : (BitVec.ofInt 16 (b : Int)).toNat = b := by
  rw [BitVec.ofInt_natCast,BitVec.toNat_ofNat]; exact Nat.mod_eq_of_lt (by omega)
 show IntKind.u16.wrap ((BitVec.ofInt 16 (a : Int) &&& BitVec.ofInt 16 (b : Int)).toNat : Int) = _
 rw [BitVec.toNat_and,h1,h2,IntKind.wrap_u16]
 omega
theorem and_pow (g k : Nat) : g &&& 2 ^ k ≠ 0 ↔ g / 2 ^ k % 2 = 1 := by
 have hb : g.testBit k = decide (g / 2 ^ k % 2 = 1) := Nat.testBit_eq_decide_div_mod_eq
 have h1 : (g &&& 2 ^ k).testBit k = g.testBit k := by rw [Nat.testBit_and,Nat.testBit_two_pow_self,Bool.and_true]
 constructor
 · intro h
   by_cases hd : g / 2 ^ k % 2 = 1
   · exact hd
   · refine absurd (Nat.eq_of_testBit_eq fun i => ?_) h
     rw [Nat.zero_testBit,Nat.testBit_and,Nat.testBit_two_pow]
     by_cases hi : k = i
     · subst hi
       rw [hb,decide_eq_false hd]
       rfl
     · simp [hi]
 · intro h e
   rw [e,Nat.zero_testBit,hb,decide_eq_true h] at h1
   cases h1
theorem bit_of (g k : Nat) (hk : k < 12) (hg : g < 4096) : (bits .and .u16 (g : Int) ((2 ^ k : Nat) : Int) != 0) = decide (g >>> k % 2 = 1) := by
 have h1 : 2 ^ k ≤ 2 ^ 11 := Nat.pow_le_pow_right (by decide) (by omega)
 have e : (2 : Nat) ^ 11 = 2048 := by decide
 have h2 := and_pow g k
 rw [and16 g (2 ^ k) (by omega) (by omega),Nat.shiftRight_eq_div_pow,Bool.eq_iff_iff,bne_iff_ne,decide_eq_true_eq,← h2]
 omega
set_option maxHeartbeats 2000000 in
theorem ids_any (k : Nat) (hk : k < 12) (w : World) :
  Calls Tryz.prog 115 #[.int .u16 ((2 ^ k : Nat) : Int)] w fun e w' => e = .returned (.int .u64 (maskK k 56 : Int)) ∧ Below w.heap.size w w' := by
 have hv := (zero_of_info rows_info).1
 have HI := Lib.hid (zero_of_info rows_info).2
 have CR := Lib.hid (fun W => rows_any W)
 have HT := Lib.hid (fun W => tab_set W rows0)
 have hz0 := Lib.hid (show rows0.size = 168 by decide +kernel)
 have HO := Lib.hid rowsC_one
 have hz := Lib.hid rowsC_size
 have hbit := Lib.hid (fun g hg => bit_of g k hk hg)
 have hpl : 0 ≤ ((2 ^ k : Nat) : Int) := Int.natCast_nonneg _
 have hpu : ((2 ^ k : Nat) : Int) ≤ 2048 := by
  have := Nat.pow_le_pow_right (n := 2) (by decide) (show k ≤ 11 by omega)
  have e : (2 : Nat) ^ 11 = 2048 := by decide
  omega
 generalize ((2 ^ k : Nat) : Int) = c at hbit hpl hpu ⊢
 generalize rowsC = C at CR HT hz HO
 generalize rows0 = Z at hv HT hz0
 go_enter Tryz.func115,Tryz.ntmps115
 go_wp2_with fail
 refine (CR.out _).mono ?_
 rintro e w1 ⟨rfl,hb1⟩
 go_wp2_with (with_reducible refine wpList_store_row rfl 137 (.tmp 4) (.tmp 6) rfl w1.heap.size C rfl rfl 137 _ (heap_alloc_last _ _) (by rw [HI.out,hz.out]) (by rw [hz.out,hz0.out]) HO.out ?_)
 have HTab := Lib.hid (HT.out w1)
 have HB := Lib.hid (below_setRow (hb1.alloc hb1.size (.cells Z 137)) hb1.size C)
 clear hb1 HT CR hv
 generalize World.setRow _ _ _ = w2 at HTab HB ⊢
 go_wp2_with fail
 go_loopw [3,7] (fun m i wx => ∃ j : Nat,j ≤ 56 ∧ i = .int .i64 j ∧ m = .int .u64 (maskK k j : Int) ∧ wx = w2) (fun _ i _ => 56 - (intOf i).toNat)
 case atStart => exact ⟨0,by omega,rfl,rfl,rfl⟩
 case round =>
  obtain ⟨j,hj,rfl,rfl,rfl⟩ := hrel
  by_cases hj56 : j < 56
  · have d3 : decide ((j : Int) < 56) = true := decide_eq_true (by omega)
    have hct := HTab.out.ct j hj56
    have hsm := ct_small j hj56
    have hm := maskK_lt k j
    have HY := Lib.hid (fun h => maskK_yes k j h)
    have HNo := Lib.hid (fun h => maskK_no k j h)
    have hb := hbit.out (cmdAt j).ct hsm
    obtain ⟨g,hg⟩ : ∃ g,g = (cmdAt j).ct := ⟨_,rfl⟩
    rw [← hg] at hct hsm hb HY HNo
    obtain ⟨M,hM⟩ : ∃ M,M = maskK k j := ⟨_,rfl⟩
    rw [← hM] at hm HY HNo ⊢
    clear hg hM
    by_cases hy : g >>> k % 2 = 1
    · have hbt : (bits .and .u16 (g : Int) c != 0) = true := by rw [hb]; exact decide_eq_true hy
      have HE := Lib.hid (HY.out (Or.inr hy))
      clear hb hy HY HNo
      go_wp2_with fail
      go_roundw
      case rel => exact ⟨j + 1,by omega,by go_num,by rw [HE.out]; exact congrArg (Value.int .u64) (or_next M j hj56 hm),trivial⟩
      case measure => simp [intOf]; omega
    · have hbt : (bits .and .u16 (g : Int) c != 0) = false := by rw [hb]; exact decide_eq_false hy
      have HE := Lib.hid (HNo.out (by rintro (h | h); omega; exact hy h))
      clear hb hy HY HNo
      go_wp2_with fail
      go_roundw
      case rel => exact ⟨j + 1,by omega,by go_num,by rw [HE.out],trivial⟩
      case measure => simp [intOf]; omega
  · have d3 : decide ((j : Int) < 56) = false := decide_eq_false (by omega)
    obtain rfl : j = 56 := by omega
    go_wp2_with fail
    go_ret
    exact ⟨rfl,HB.out⟩
end Go.Proofs.YtpoinibckmbfcaaGreatDoor.TableM
namespace Go.Proofs.YtpoinibckmbfcaaGreatDoor.TableM
open Go.RowKit Kit TableMath
open RefTab (build_nil results_cell_slot atV_in atV_out cmd_size fits_out fits_low fits_same ar_small)
set_option linter.unusedVariables false
set_option maxRecDepth 100000
end Go.Proofs.YtpoinibckmbfcaaGreatDoor.TableM
namespace Go.Proofs.YtpoinibckmbfcaaGreatDoor.TableM
open Go.RowKit Kit TableMath Low StrT
open RefTab (beq_str)
set_option linter.unusedVariables false
set_option maxRecDepth 100000
set_option maxHeartbeats 1000000 in
theorem find_any (s : ByteArray) (w : World) (hz : s.size ≤ 140737488351232) :
  Calls Tryz.prog 150 #[.string s] w fun e w' => e = .returned (.tuple #[.int .i64 (findV (lowL s.data.toList)),.bool (findB (lowL s.data.toList))]) ∧ Below w.heap.size w w' := by
 have hv := (zero_of_info rows_info).1
 have HI := Lib.hid (zero_of_info rows_info).2
 have CA := Lib.hid (fun W => rows_any W)
 have HTs := Lib.hid (fun W => tab_set W rows0)
 have hz0 := Lib.hid (show rows0.size = 168 by decide +kernel)
 have HO := Lib.hid rowsC_one
 have hzc := Lib.hid rowsC_size
 generalize rowsC = C at CA HTs hzc HO
 generalize rows0 = Z at hv HTs hz0
 obtain ⟨T,hT⟩ : ∃ T : ByteArray,T = ⟨(lowL s.data.toList).toArray⟩ := ⟨_,rfl⟩
 have CL := Lib.hid (hT ▸ LowN.lower_any s w (by unfold maxLen; omega) : Calls Tryz.prog 151 #[.string s] w fun e w' => e = .returned (.string T) ∧ Below w.heap.size w w')
 obtain ⟨l,hl⟩ : ∃ l,l = lowL s.data.toList := ⟨_,rfl⟩
 have HTd := Lib.hid (show T.data.toList = l by rw [hT,hl])
 rw [← hl]
 have HLe := Lib.hid (findK_le l)
 clear hT hl
 go_enter Tryz.func150,Tryz.ntmps150
 go_wp2_with fail
 refine CL.out.mono ?_
 rintro e w0 ⟨rfl,hb0⟩
 go_wp2_with fail
 refine (CA.out _).mono ?_
 rintro e w1 ⟨rfl,hb1⟩
 have HB1 := Lib.hid (hb0.trans (hb1.mono hb0.size))
 clear hb0 hb1 CA CL
 go_wp2_with (with_reducible refine wpList_store_row rfl 137 (.tmp 5) (.tmp 9) rfl w1.heap.size C rfl rfl 137 _ (heap_alloc_last _ _) (by rw [HI.out,hzc.out]) (by rw [hzc.out,hz0.out]) HO.out ?_)
 have HTab := Lib.hid (HTs.out w1)
 have HB := Lib.hid (below_setRow (HB1.out.alloc HB1.out.size (.cells Z 137)) HB1.out.size C)
 clear HB1 HTs hv
 generalize World.setRow _ _ _ = w2 at HTab HB ⊢
 go_wp2_with fail
 go_loopw [10] (fun i wr => ∃ k : Nat,k ≤ 56 ∧ i = .int .i64 k ∧ Hid (k ≤ findK l) ∧ wr = w2) (fun i _ => 56 - (intOf i).toNat)
 case atStart => exact ⟨0,by omega,rfl,Lib.hid (Nat.zero_le _),rfl⟩
 case round =>
  obtain ⟨k,hk,rfl,HK,rfl⟩ := hrel
  by_cases hlt : k < 56
  · have d1 : decide ((k : Int) < 56) = true := decide_eq_true (by omega)
    obtain ⟨S,hS⟩ : ∃ S : ByteArray,S = ⟨(cmdAt k).name.toArray⟩ := ⟨_,rfl⟩
    have hcell := HTab.out.name k hlt
    rw [← hS] at hcell
    have hE := beq_str S T (cmdAt k).name l (by rw [hS]) HTd.out
    have k0 : (0 : Int) ≤ (k : Int) := by omega
    by_cases hn : (cmdAt k).name = l
    · have hE2 : (S.toList == T.toList) = true := by rw [hE]; exact decide_eq_true hn
      have HF := Lib.hid (findV_at hlt (findK_at hlt HK.out hn))
      clear hE hn hS
      go_wp2_with fail
      go_ret2
      exact ⟨by rw [HF.out.1,HF.out.2]; rfl,HB.out⟩
    · have hE2 : (S.toList == T.toList) = false := by rw [hE]; exact decide_eq_false hn
      have HK2 := Lib.hid (findK_next hlt HK.out hn)
      clear hE hn hS
      go_wp2_with fail
      go_roundw
      case rel => exact ⟨k + 1,by omega,by go_num,HK2,trivial⟩
      case measure => simp [intOf]; omega
  · have d1 : decide ((k : Int) < 56) = false := decide_eq_false (by omega)
    have HF := Lib.hid (findV_none (s := l) (by have := HK.out; omega))
    go_wp2_with fail
    go_ret2
    exact ⟨by rw [HF.out.1,HF.out.2]; rfl,HB.out⟩
end Go.Proofs.YtpoinibckmbfcaaGreatDoor.TableM
namespace Go.Proofs.YtpoinibckmbfcaaGreatDoor.TableM
open Go.RowKit Kit TableMath Low StrT
open RefTab (cats_ss beq_str)
set_option linter.unusedVariables false
set_option maxRecDepth 100000
set_option maxHeartbeats 1000000 in
theorem cats12 (w : World) : Calls Tryz.prog 114 #[] w fun e w' => ∃ b,e = .returned (.slice (some ⟨b,0,none⟩) 12 12) ∧ Ss w' (some ⟨b,0,none⟩) cats ∧ w.heap.size ≤ b ∧ Below w.heap.size w w' := by
 have HS := Lib.hid (cats_ss w)
 go_enter Tryz.func114,Tryz.ntmps114
 go_wp2_with fail
 go_ret
 exact ⟨_,rfl,HS.out,Nat.le_refl _,Kit.below1 _ _⟩
theorem cats_any (w : World) : Calls Tryz.prog 114 #[] w fun e w' => ∃ b o c,e = .returned (.slice (some ⟨b,o,none⟩) 12 c) ∧ Ss w' (some ⟨b,o,none⟩) cats ∧ Below w.heap.size w w' :=
 (cats12 w).mono fun _ _ ⟨b,he,hs,_,hb⟩ => ⟨b,0,12,he,hs,hb⟩
theorem pow16 (k : Nat) (hk : k < 12) : IntKind.u16.wrap (2 ^ k) = ((2 ^ k : Nat) : Int) := by
 have h1 : 2 ^ k ≤ 2 ^ 11 := Nat.pow_le_pow_right (by decide) (by omega)
 have e : (2 : Nat) ^ 11 = 2048 := by decide
 have e2 : (2 : Int) ^ k = ((2 ^ k : Nat) : Int) := by rw [Int.natCast_pow]; rfl
 rw [e2]
 generalize 2 ^ k = P at h1
 rw [IntKind.wrap_u16]
 omega
theorem catK_lo {s : List UInt8} {k : Nat} (hk : k < 12) (hle : k ≤ catK s) (h : cats[k]'(by rw [cats_len]; exact hk) = s) : catK s = k :=
 catK_at (k := k) (by omega) hle (by rw [← h]; exact List.getElem_append_left (bs := [allN]) (by rw [cats_len]; exact hk))
theorem catK_up {s : List UInt8} {k : Nat} (hk : k < 12) (hle : k ≤ catK s) (h : cats[k]'(by rw [cats_len]; exact hk) ≠ s) : k + 1 ≤ catK s :=
 catK_next (k := k) (by omega) hle (fun e => h (by rw [← e]; exact (List.getElem_append_left (bs := [allN]) (by rw [cats_len]; exact hk)).symm))
theorem mask_all : maskK 12 56 = 72057594037927935 := by decide +kernel
theorem catV_all {s : List UInt8} (h : s = allN) : catV s = 72057594037927935 ∧ catB s = true := by
 subst h
 decide +kernel
theorem catV_not {s : List UInt8} (h : s ≠ allN) (hle : 12 ≤ catK s) : catV s = 0 ∧ catB s = false :=
 catV_none (catK_next (k := 12) (by decide) hle (fun e => h (by rw [← e]; rfl)))
set_option maxHeartbeats 2000000 in
theorem cat_any (s : ByteArray) (w : World) (hz : s.size ≤ 140737488351232) :
  Calls Tryz.prog 82 #[.string s] w fun e w' => e = .returned (.tuple #[.int .u64 (catV s.data.toList : Int),.bool (catB s.data.toList)]) ∧ Below w.heap.size w w' := by
 have CC := Lib.hid (fun W => cats12 W)
 obtain ⟨l,hl⟩ : ∃ l,l = s.data.toList := ⟨_,rfl⟩
 have HS := Lib.hid hl.symm
 rw [← hl]
 by_cases hall : l = allN
 · have HF := Lib.hid (catV_all hall)
   have hA : (s.toList == [97,108,108]) = true := by rw [ByteArray.toList_eq,← hl,hall]; rfl
   have hA2 : (s.toList == (⟨#[97,108,108]⟩ : ByteArray).toList) = true := by rw [ByteArray.toList_eq,ByteArray.toList_eq,← hl,hall]; rfl
   clear hl hall CC
   go_enter Tryz.func82,Tryz.ntmps82
   go_wp2_with fail
   go_ret2
   exact ⟨by rw [HF.out.1,HF.out.2]; rfl,Below.refl _ _⟩
 · have hA : (s.toList == [97,108,108]) = false := by
    rw [ByteArray.toList_eq,beq_eq_false_iff_ne,← hl]
    exact hall
   have hA2 : (s.toList == (⟨#[97,108,108]⟩ : ByteArray).toList) = false := by
    rw [ByteArray.toList_eq,ByteArray.toList_eq,beq_eq_false_iff_ne,← hl]
    exact hall
   have HNA := Lib.hid hall
   clear hl hall
   go_enter Tryz.func82,Tryz.ntmps82
   go_wp2_with fail
   refine (CC.out _).mono ?_
   rintro e w2 ⟨b2,rfl,hS2,hge,hb2⟩
   have HSs := Lib.hid hS2
   have HB2 := Lib.hid hb2
   clear hS2 hb2 CC hge
   go_wp2_with fail
   go_loopw [10] (fun i wr => ∃ k : Nat,k ≤ 12 ∧ i = .int .i64 k ∧ Hid (k ≤ catK l) ∧ wr = w2) (fun i _ => 12 - (intOf i).toNat)
   case atStart => exact ⟨0,by omega,rfl,Lib.hid (Nat.zero_le _),rfl⟩
   case round =>
    obtain ⟨k,hk,rfl,HK,rfl⟩ := hrel
    by_cases hk12 : k < 12
    · have d2 : decide ((k : Int) < 12) = true := decide_eq_true (by omega)
      obtain ⟨b',off,e1,hbl,hc⟩ := HSs.out (by decide)
      injection e1 with e1
      injection e1 with e2 e3 e4
      subst e2 e3
      have hu := hc k (by rw [cats_len]; exact hk12)
      rw [Nat.zero_add] at hu
      obtain ⟨S,hS⟩ : ∃ S : ByteArray,S = ⟨(cats[k]'(by rw [cats_len]; exact hk12)).toArray⟩ := ⟨_,rfl⟩
      rw [← hS] at hu
      have hE := beq_str S s _ _ (by rw [hS]) HS.out
      clear hS hc
      by_cases hne : cats[k]'(by rw [cats_len]; exact hk12) = l
      · have HF := Lib.hid (catV_at (show k < 13 by omega) (catK_lo hk12 HK.out hne))
        have hE2 : (S.toList == s.toList) = true := by rw [hE]; exact decide_eq_true hne
        have CI := Lib.hid (fun W => ids_any k hk12 W)
        have HP := Lib.hid (pow16 k hk12)
        clear hE hne
        go_wp2_with fail
        rw [show IntKind.u16.wrap (2 ^ k) = ((2 ^ k : Nat) : Int) from HP.out]
        refine (CI.out _).mono ?_
        rintro e w3 ⟨rfl,hb3⟩
        have HB3 := Lib.hid (HB2.out.trans (hb3.mono HB2.out.size))
        clear hb3 CI HB2 HSs
        go_wp2_with fail
        go_ret2
        exact ⟨by rw [HF.out.1,HF.out.2]; rfl,HB3.out⟩
      · have HK2 := Lib.hid (catK_up hk12 HK.out hne)
        have hE2 : (S.toList == s.toList) = false := by rw [hE]; exact decide_eq_false hne
        clear hE hne
        go_wp2_with fail
        go_roundw
        case rel => exact ⟨k + 1,by omega,by go_num,HK2,trivial⟩
        case measure => simp [intOf]; omega
    · have d2 : decide ((k : Int) < 12) = false := decide_eq_false (by omega)
      have HF := Lib.hid (catV_not HNA.out (by have := HK.out; omega))
      go_wp2_with fail
      go_ret2
      exact ⟨by rw [HF.out.1,HF.out.2]; rfl,HB2.out⟩
end Go.Proofs.YtpoinibckmbfcaaGreatDoor.TableM
