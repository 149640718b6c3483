/-
  Packed by program.
-/
import Derived.Laws.CopyRow
import Derived.Laws.Append
import Derived.Lib.AppendZerosOnto
import Derived.Lib.SliceRun
import Derived.Lib.Builder
import Derived.Deep.MidRow
import Derived.Test.YtpoinibckmbfcaaGreatDoorPk04
import Derived.Test.YtpoinibckmbfcaaGreatDoorPk07
namespace Go.Proofs.YtpoinibckmbfcaaGreatDoor.UserT
open Go.RowKit Kit TableMath Low RuleT
open NumW (wordB okByte)
open MacM (rightB recL recOf three cutL)
set_option linter.unusedVariables false
set_option maxRecDepth 100000
structure KG where
 pat : List UInt8
 r : Bool
 w : Bool
deriving DecidableEq
structure UV where
 name : List UInt8
 on : Bool
 np : Bool
 hs : List (List UInt8)
 cmds : Nat
 ks : List KG
 cs : List (List UInt8)
deriving DecidableEq
def newU (n : List UInt8) : UV := ⟨n,false,false,[],0,[],[]⟩
def allM : Nat := 72057594037927935
def onceB (l : List (List UInt8)) : Bool := decide l.Nodup && decide (l.length ≤ 64)
def rightU (u : UV) : Bool :=
 (wordB u.name && decide (u.name.length ≤ 32)) && (onceB (u.ks.map (·.pat)) && (u.ks.map (·.pat)).all wordB && u.ks.all (fun g => g.r || g.w)) && (onceB u.cs && u.cs.all wordB) && (onceB u.hs && u.hs.all rightB) && decide (u.cmds ≤ allM)
structure RightU (u : UV) : Prop where
 nw : wordB u.name = true
 nl : u.name.length ≤ 32
 kn : (u.ks.map (·.pat)).Nodup
 kl : u.ks.length ≤ 64
 kw : ∀ g ∈ u.ks,wordB g.pat = true
 ka : ∀ g ∈ u.ks,(g.r || g.w) = true
 cn : u.cs.Nodup
 cl : u.cs.length ≤ 64
 cw : ∀ c ∈ u.cs,wordB c = true
 hn : u.hs.Nodup
 hl : u.hs.length ≤ 64
 hr : ∀ h ∈ u.hs,rightB h = true
 m : u.cmds ≤ allM
theorem right_iff (u : UV) : rightU u = true ↔ RightU u := by
 unfold rightU onceB
 simp only [Bool.and_eq_true,decide_eq_true_eq,List.all_eq_true,List.length_map]
 constructor
 · rintro ⟨⟨⟨⟨⟨a,b⟩,⟨⟨⟨c,d⟩,e⟩,f⟩⟩,⟨⟨g,h⟩,i⟩⟩,⟨⟨j,k⟩,l⟩⟩,m⟩
   exact ⟨a,b,c,d,fun x hx => e _ (List.mem_map.2 ⟨x,hx,rfl⟩),f,g,h,i,j,k,l,m⟩
 · intro h
   refine ⟨⟨⟨⟨⟨h.nw,h.nl⟩,⟨⟨⟨h.kn,h.kl⟩,?_⟩,h.ka⟩⟩,⟨⟨h.cn,h.cl⟩,h.cw⟩⟩,⟨⟨h.hn,h.hl⟩,h.hr⟩⟩,h.m⟩
   intro x hx
   obtain ⟨g,hg,rfl⟩ := List.mem_map.1 hx
   exact h.kw g hg
def namedB (m : Nat) : Bool := decide (m = allM) || (cats.any (fun c => decide (catV c = m)) || (List.range 56).any (fun i => decide (2 ^ i = m)))
def rightR (r : RV) : Bool :=
 if r.kind = 5 then decide (r = ⟨r.kind,r.s,false,false,0⟩)
 else if r.kind = 6 ∨ r.kind = 7 then decide (r = ⟨r.kind,r.s,false,false,0⟩) && rightB r.s
 else if r.kind = 8 ∨ r.kind = 9 then decide (r = ⟨r.kind,[],false,false,r.mask⟩) && namedB r.mask
 else if r.kind = 10 then decide (r = ⟨r.kind,r.s,r.r,r.w,0⟩) && wordB r.s && (r.r || r.w)
 else if r.kind = 12 then decide (r = ⟨r.kind,r.s,false,false,0⟩) && wordB r.s
 else decide (r = ⟨r.kind,[],false,false,0⟩) && decide (1 ≤ r.kind ∧ r.kind ≤ 14)
def moreL (l : List (List UInt8)) (s : List UInt8) : List (List UInt8) := if s ∈ l then l else l ++ [s]
def keysL : List KG → List UInt8 → Bool → Bool → List KG
  | [],s,a,b => [⟨s,a,b⟩]
  | g :: t,s,a,b => if g.pat = s then ⟨g.pat,g.r || a,g.w || b⟩ :: t else g :: keysL t s a b
def recD (pass salt : List UInt8) (n : Int) : Option (List UInt8) := if (1 ≤ n ∧ n ≤ 64) ∧ salt.length ≤ 32 then some (recL n salt (MacM.derL pass salt n)) else none
def setU (u : UV) (r : RV) (h : List UInt8) : UV :=
 match r.kind with
 | 1 => { u with on := true }
 | 2 => { u with on := false }
 | 3 => { u with np := true,hs := [] }
 | 4 => { u with np := false,hs := [] }
 | 5 => { u with np := false,hs := moreL u.hs h }
 | 6 => { u with np := false,hs := moreL u.hs r.s }
 | 7 => { u with hs := u.hs.filter (fun x => decide (x ≠ r.s)) }
 | 8 => { u with cmds := u.cmds ||| r.mask }
 | 9 => { u with cmds := u.cmds ^^^ (u.cmds &&& r.mask) }
 | 10 => { u with ks := keysL u.ks r.s r.r r.w }
 | 11 => { u with ks := [] }
 | 12 => { u with cs := moreL u.cs r.s }
 | 13 => { u with cs := [] }
 | _ => newU u.name
def fewB (u : UV) : Bool := decide (u.hs.length ≤ 64 ∧ u.ks.length ≤ 64 ∧ u.cs.length ≤ 64)
def applyD (u : UV) (r : RV) (rec : Option (List UInt8)) : Option UV :=
 if rightR r then
  if r.kind = 5 then (match rec with | some h => if fewB (setU u r h) then some (setU u r h) else none | none => none)
  else if fewB (setU u r []) then some (setU u r []) else none
 else none
def enterD (u : UV) (pass : List UInt8) : Bool := u.on && (u.np || u.hs.any (fun h => MacM.checkB h pass))
def markL (g : KG) : List UInt8 := if g.r then (if g.w then [126] else [37,82,126]) else [37,87,126]
def idsL (m : Nat) : List Nat := (List.range 56).filter (fun i => m.testBit i)
def cmdsW (m : Nat) : List (List UInt8) := if m = allM then [[43,64,97,108,108]] else [45,64,97,108,108] :: (idsL m).map (fun i => 43 :: (cmdAt i).name)
def bodyW (u : UV) : List (List UInt8) := (if u.on then [111,110] else [111,102,102]) :: ((if u.np then [[110,111,112,97,115,115]] else []) ++ (u.hs.map (fun h => 35 :: h) ++ (u.ks.map (fun g => markL g ++ g.pat) ++ (u.cs.map (fun c => 38 :: c) ++ cmdsW u.cmds))))
def wordsD (u : UV) : List (List UInt8) := [117,115,101,114] :: u.name :: bodyW u
def joinW : List (List UInt8) → List UInt8
  | [] => []
  | [a] => a
  | a :: b :: t => a ++ 32 :: joinW (b :: t)
def textD (u : UV) : List UInt8 := joinW (wordsD u)
def splitW : List UInt8 → List (List UInt8)
  | [] => [[]]
  | c :: r => if c = 32 then [] :: splitW r else (match splitW r with | [] => [[c]] | h :: t => (c :: h) :: t)
def stepU (u : UV) (w : List UInt8) : Option UV :=
 match ruleD w with
 | none => none
 | some r => if r.kind = 5 then none else (applyD u r none).map fun v => { v with np := v.np || u.np }
def foldU : UV → List (List UInt8) → Option UV
  | u,[] => some u
  | u,w :: t => (stepU u w).bind fun v => foldU v t
def parseD (l : List UInt8) : Option UV :=
 match splitW l with
 | _ :: n :: t => (foldU (newU n) t).bind fun u => if rightU u ∧ textD u = l then some u else none
 | _ => none
theorem split_ne : ∀ l : List UInt8,splitW l ≠ []
  | [] => by simp [splitW]
  | c :: r => by
    unfold splitW
    by_cases hc : c = 32
    · rw [if_pos hc]
      simp
    · rw [if_neg hc]
      split <;> simp
theorem split_cons {c : UInt8} (hc : c ≠ 32) {r h : List UInt8} {t : List (List UInt8)} (e : splitW r = h :: t) : splitW (c :: r) = (c :: h) :: t := by
 rw [splitW,if_neg hc,e]
theorem split_word : ∀ (a l : List UInt8),(32 : UInt8) ∉ a → splitW (a ++ 32 :: l) = a :: splitW l
  | [],l,_ => by rw [List.nil_append,splitW,if_pos rfl]
  | c :: a,l,h => by
    have hc : c ≠ 32 := fun e => h (by rw [e]; simp)
    exact split_cons hc (split_word a l (fun e => h (by simp [e])))
theorem split_last : ∀ a : List UInt8,(32 : UInt8) ∉ a → splitW a = [a]
  | [],_ => rfl
  | c :: a,h => by
    have hc : c ≠ 32 := fun e => h (by rw [e]; simp)
    exact split_cons hc (split_last a (fun e => h (by simp [e])))
theorem split_join : ∀ ws : List (List UInt8),ws ≠ [] → (∀ w ∈ ws,(32 : UInt8) ∉ w) → splitW (joinW ws) = ws
  | [],h,_ => absurd rfl h
  | [a],_,h => split_last a (h a (by simp))
  | a :: b :: t,_,h => by
    rw [joinW,split_word a _ (h a (by simp)),split_join (b :: t) (by simp) (fun w hw => h w (List.mem_cons_of_mem _ hw))]
theorem join_cons (a : List UInt8) {t : List (List UInt8)} (h : t ≠ []) : joinW (a :: t) = a ++ 32 :: joinW t := by
 cases t with
 | nil => exact absurd rfl h
 | cons b t => rfl
theorem join_head (c : UInt8) (h : List UInt8) (t : List (List UInt8)) : joinW ((c :: h) :: t) = c :: joinW (h :: t) := by
 cases t <;> rfl
theorem join_split : ∀ l : List UInt8,joinW (splitW l) = l
  | [] => rfl
  | c :: r => by
    have ih := join_split r
    by_cases hc : c = 32
    · rw [splitW,if_pos hc,join_cons _ (split_ne r),ih,hc]
      rfl
    · obtain ⟨h,t,e⟩ : ∃ h t,splitW r = h :: t := by
       cases hs : splitW r with
       | nil => exact absurd hs (split_ne r)
       | cons h t => exact ⟨h,t,rfl⟩
      rw [split_cons hc e,join_head,← e,ih]
end Go.Proofs.YtpoinibckmbfcaaGreatDoor.UserT
namespace Go.Proofs.YtpoinibckmbfcaaGreatDoor.UserR
open Go.RowKit Kit StrT RowG RuleT UserT
set_option linter.unusedVariables false
set_option maxRecDepth 100000
def strE : Enc (List UInt8) where
 enc l := [.string ⟨l.toArray⟩]
 sz := 1
 bytes := 16
 ty := 9
 slt := 22
 zero := .string ByteArray.empty
 len _ := rfl
 one a u hu := by
  rw [List.mem_singleton.1 hu]
  rfl
 pos := by decide
 info := by kernel_rfl
 zlen := rfl
 by64 := by decide
 und := by kernel_rfl
def glE : Enc KG where
 enc g := [.string ⟨g.pat.toArray⟩,.bool g.r,.bool g.w]
 sz := 3
 bytes := 24
 ty := 55
 slt := 24
 zero := .agg #[.string ByteArray.empty,.bool false,.bool false]
 len _ := rfl
 one a u hu := by
  simp at hu
  rcases hu with rfl | rfl | rfl <;> rfl
 pos := by decide
 info := by kernel_rfl
 zlen := rfl
 by64 := by decide
 und := by kernel_rfl
def ruE : Enc RV where
 enc v := [.int .u8 (v.kind : Int),.string ⟨v.s.toArray⟩,.bool v.r,.bool v.w,.int .u64 (v.mask : Int)]
 sz := 5
 bytes := 40
 ty := 29
 slt := 27
 zero := .agg #[.int .u8 0,.string ByteArray.empty,.bool false,.bool false,.int .u64 0]
 len _ := rfl
 one a u hu := by
  simp at hu
  rcases hu with rfl | rfl | rfl | rfl | rfl <;> rfl
 pos := by decide
 info := by kernel_rfl
 zlen := rfl
 by64 := by decide
 und := by kernel_rfl
theorem flat_sv : ∀ L : List (List UInt8),flat strE L = sv L
  | [] => rfl
  | a :: L => by
    rw [flat_cons,flat_sv L]
    rfl
theorem rs_ss {w : World} {q : Option Addr} {L : List (List UInt8)} : Rs strE w q L ↔ Ss w q L := by
 constructor
 · intro h h0
   obtain ⟨b,off,e,hlt,hc⟩ := h h0
   refine ⟨b,off,e,hlt,fun j hj => ?_⟩
   have := hc j (by simpa [strE] using hj)
   rw [this,flat_sv]
   simp [sv,List.getElem?_map,List.getElem?_eq_getElem hj]
 · intro h h0
   obtain ⟨b,off,e,hlt,hc⟩ := h h0
   refine ⟨b,off,e,hlt,fun j hj => ?_⟩
   have hj' : j < L.length := by simpa [strE] using hj
   rw [hc j hj',flat_sv]
   simp [sv,List.getElem?_map,List.getElem?_eq_getElem hj']
theorem glob_cells {w : World} {q : Option Addr} {L : List KG} (h : Rs glE w q L) (i : Nat) (hi : i < L.length) : ∃ b off,q = some ⟨b,off,none⟩ ∧ b < w.heap.size ∧
  w.cell? ⟨b,off + i * 3,none⟩ = some (.string ⟨L[i].pat.toArray⟩) ∧ w.cell? ⟨b,off + i * 3 + 1,none⟩ = some (.bool L[i].r) ∧ w.cell? ⟨b,off + i * 3 + 2,none⟩ = some (.bool L[i].w) := by
 obtain ⟨b,off,e,hlt,hc⟩ := h.cells i hi
 exact ⟨b,off,e,hlt,hc 0 (by decide),hc 1 (by decide),hc 2 (by decide)⟩
theorem rule_cells {w : World} {q : Option Addr} {L : List RV} (h : Rs ruE w q L) (i : Nat) (hi : i < L.length) : ∃ b off,q = some ⟨b,off,none⟩ ∧ b < w.heap.size ∧
  w.cell? ⟨b,off + i * 5,none⟩ = some (.int .u8 (L[i].kind : Int)) ∧ w.cell? ⟨b,off + i * 5 + 1,none⟩ = some (.string ⟨L[i].s.toArray⟩) ∧ w.cell? ⟨b,off + i * 5 + 2,none⟩ = some (.bool L[i].r) ∧ w.cell? ⟨b,off + i * 5 + 3,none⟩ = some (.bool L[i].w) ∧ w.cell? ⟨b,off + i * 5 + 4,none⟩ = some (.int .u64 (L[i].mask : Int)) := by
 obtain ⟨b,off,e,hlt,hc⟩ := h.cells i hi
 exact ⟨b,off,e,hlt,hc 0 (by decide),hc 1 (by decide),hc 2 (by decide),hc 3 (by decide),hc 4 (by decide)⟩
structure RowIn {α : Type} (E : Enc α) (w : World) (q : Option Addr) (n c : Nat) (L : List α) : Prop where
 r : Rs E w q L
 l : L.length = n
 f : n ≤ 1048576
 b : n ≤ c
 m : c ≤ 9223372036854775807
 e : q = none → c = 0
theorem RowIn.keep {α : Type} {E : Enc α} {w w' : World} {q : Option Addr} {n c : Nat} {L : List α} (h : RowIn E w q n c L) (hb : Below w.heap.size w w') : RowIn E w' q n c L := ⟨h.r.keep hb,h.l,h.f,h.b,h.m,h.e⟩
theorem RowIn.nil {α : Type} (E : Enc α) (w : World) : RowIn E w none 0 0 [] := ⟨Rs.nil _ _ _,rfl,Nat.zero_le _,Nat.le_refl _,Nat.zero_le _,fun _ => rfl⟩
theorem RowIn.same {α : Type} {E : Enc α} {w w' : World} {q : Option Addr} {n c : Nat} {L : List α} (h : RowIn E w q n c L) (hs : w.heap.size ≤ w'.heap.size) (hk : ∀ a,0 < n → q = some a → w'.heap[a.block]? = w.heap[a.block]?) : RowIn E w' q n c L := by
 refine ⟨fun h0 => ?_,h.l,h.f,h.b,h.m,h.e⟩
 obtain ⟨b,off,e,hlt,hc⟩ := h.r h0
 refine ⟨b,off,e,Nat.lt_of_lt_of_le hlt hs,fun j hj => ?_⟩
 rw [← hc j hj]
 have := hk _ (by rw [← h.l]; exact h0) e
 simp only [World.cell?]
 rw [this]
theorem RowIn.lt {α : Type} {E : Enc α} {w : World} {q : Option Addr} {n c : Nat} {L : List α} (h : RowIn E w q n c L) (h0 : 0 < n) (a : Addr) (e : q = some a) : a.block < w.heap.size := by
 obtain ⟨b,off,e',hlt,-⟩ := h.r (by rw [h.l]; exact h0)
 rw [e] at e'
 injection e' with e'
 subst e'
 exact hlt
theorem AnsR.row {α : Type} {E : Enc α} {base : Nat} {w : World} {v : Value} {L : List α} (h : AnsR E base w v L) (hl : L.length ≤ 1048576) : ∃ q c,v = .slice q L.length c ∧ RowIn E w q L.length c L ∧ ∀ a,q = some a → base ≤ a.block := by
 obtain ⟨q,c,rfl,h1,h2,h3,h4,h5⟩ := h
 exact ⟨q,c,rfl,⟨h1,rfl,hl,h3,h4,h5⟩,h2⟩
theorem row_ans {α : Type} {E : Enc α} {base : Nat} {w : World} {v : Value} {L : List α} (h : OwnR E base w v L) (hl : L.length ≤ 1048576) : ∃ q c,v = .slice q L.length c ∧ RowIn E w q L.length c L ∧ ∀ a,q = some a → base ≤ a.block := AnsR.row h.ans hl
structure UP where
 N : ByteArray
 on : Bool
 np : Bool
 qh : Option Addr
 nh : Nat
 ch : Nat
 m : Int
 qk : Option Addr
 nk : Nat
 ck : Nat
 qc : Option Addr
 nc : Nat
 cc : Nat
 d : UV
structure UIn (w : World) (p : UP) : Prop where
 en : p.N.data.toList = p.d.name
 eo : p.on = p.d.on
 ep : p.np = p.d.np
 em : p.m = (p.d.cmds : Int)
 mb : p.d.cmds < 18446744073709551616
 h : RowIn strE w p.qh p.nh p.ch p.d.hs
 k : RowIn glE w p.qk p.nk p.ck p.d.ks
 c : RowIn strE w p.qc p.nc p.cc p.d.cs
theorem UIn.keep {w w' : World} {p : UP} (h : UIn w p) (hb : Below w.heap.size w w') : UIn w' p := { h with h := h.h.keep hb,k := h.k.keep hb,c := h.c.keep hb }
def UP.agg (p : UP) : Value := .agg #[.string p.N,.bool p.on,.bool p.np,.slice p.qh p.nh p.ch,.int .u64 p.m,.slice p.qk p.nk p.ck,.slice p.qc p.nc p.cc]
def newP (N : ByteArray) : UP := ⟨N,false,false,none,0,0,0,none,0,0,none,0,0,newU N.data.toList⟩
theorem newP_in (N : ByteArray) (w : World) : UIn w (newP N) := ⟨rfl,rfl,rfl,rfl,(show (0 : Nat) < 18446744073709551616 by decide),RowIn.nil _ _,RowIn.nil _ _,RowIn.nil _ _⟩
def UP.at_ (p : UP) (k : Nat) : Prop := (0 < p.nh ∧ ∃ a,p.qh = some a ∧ a.block = k) ∨ (0 < p.nk ∧ ∃ a,p.qk = some a ∧ a.block = k) ∨ (0 < p.nc ∧ ∃ a,p.qc = some a ∧ a.block = k)
theorem newP_at (N : ByteArray) (k : Nat) : ¬ (newP N).at_ k := by
 unfold UP.at_ newP
 simp
theorem UIn.same {w w' : World} {p : UP} (h : UIn w p) (hs : w.heap.size ≤ w'.heap.size) (hk : ∀ k,p.at_ k → w'.heap[k]? = w.heap[k]?) : UIn w' p :=
 { h with h := h.h.same hs (fun a h0 e => hk _ (Or.inl ⟨h0,a,e,rfl⟩)),k := h.k.same hs (fun a h0 e => hk _ (Or.inr (Or.inl ⟨h0,a,e,rfl⟩))),c := h.c.same hs (fun a h0 e => hk _ (Or.inr (Or.inr ⟨h0,a,e,rfl⟩))) }
theorem UIn.lt {w : World} {p : UP} (h : UIn w p) (k : Nat) (hk : p.at_ k) : k < w.heap.size := by
 rcases hk with ⟨h0,a,e,rfl⟩ | ⟨h0,a,e,rfl⟩ | ⟨h0,a,e,rfl⟩
 · exact h.h.lt h0 a e
 · exact h.k.lt h0 a e
 · exact h.c.lt h0 a e
def AnsU (F : Nat → Prop) (d : UV) (w : World) (e : Ending) (w' : World) : Prop := ∃ p : UP,e = .returned p.agg ∧ UIn w' p ∧ p.d = d ∧ (∀ k,p.at_ k → F k ∨ w.heap.size ≤ k) ∧ Below w.heap.size w w'
def AnsUB (F : Nat → Prop) (d : UV) (ok : Bool) (w : World) (e : Ending) (w' : World) : Prop := ∃ p : UP,e = .returned (.tuple #[p.agg,.bool ok]) ∧ UIn w' p ∧ p.d = d ∧ (∀ k,p.at_ k → F k ∨ w.heap.size ≤ k) ∧ Below w.heap.size w w'
theorem user_size : (Tryz.prog.info? 26).map (·.size) = some 7 := by kernel_rfl
theorem user_cs (x0 x1 x2 x3 x4 x5 x6 : Value) : (Tryz.prog.info? 26).map (·.size) = some (#[x0,x1,x2,x3,x4,x5,x6] : Array Value).size := user_size
theorem user_one (N : ByteArray) (on np : Bool) (qh qk qc : Option Addr) (nh ch nk ck nc cc : Nat) (m : Int) : (#[Value.string N,.bool on,.bool np,.slice qh nh ch,.int .u64 m,.slice qk nk ck,.slice qc nc cc] : Array Value).all (·.oneCell') = true := by simp [Value.oneCell']
theorem u_cells {w : World} {g : Nat} {x0 x1 x2 x3 x4 x5 x6 : Value} (h : w.heap[g]? = some (.cells #[x0,x1,x2,x3,x4,x5,x6] 26 (0,0))) :
  w.cell? ⟨g,0,none⟩ = some x0 ∧ w.cell? ⟨g,1,none⟩ = some x1 ∧ w.cell? ⟨g,2,none⟩ = some x2 ∧ w.cell? ⟨g,3,none⟩ = some x3 ∧ w.cell? ⟨g,4,none⟩ = some x4 ∧ w.cell? ⟨g,5,none⟩ = some x5 ∧ w.cell? ⟨g,6,none⟩ = some x6 := by
 refine ⟨?_,?_,?_,?_,?_,?_,?_⟩ <;> rw [cell_of_row _ _ _ _ _ _ h] <;> rfl
end Go.Proofs.YtpoinibckmbfcaaGreatDoor.UserR
namespace Go.Proofs.YtpoinibckmbfcaaGreatDoor.Ref01
set_option linter.unusedVariables false
set_option maxRecDepth 100000
open Go.RowKit Kit NumW
set_option maxHeartbeats 400000 in
theorem word_ref (s : ByteArray) (w : World) (hs : s.size ≤ maxLen) :
  Calls Tryz.prog 43 #[.string s] w fun e w' => e = .returned (.bool (wordB s.data.toList)) ∧ w = w' := by
 unfold maxLen at hs
 go_enter Tryz.func43,Tryz.ntmps43
 go_wp2
 go_loop [3] (fun i => ∃ k : Nat,k ≤ s.size ∧ i = .int .i64 k ∧ (s.data.toList.take k).all okByte = true) (fun i => s.size - (intOf i).toNat)
 case atStart => exact ⟨0,Nat.zero_le _,rfl,rfl⟩
 case round =>
  obtain ⟨k,hk,rfl,hall⟩ := hrel
  have HA := hall
  have HAh : Hid ((s.data.toList.take k).all okByte = true) := HA
  clear hall HA
  by_cases hlt : k < s.size
  · by_cases h1 : 33 ≤ s[k].toNat
    · by_cases h2 : s[k].toNat ≤ 126
      · go_wp2
        go_round
        case rel => exact ⟨k + 1,by omega,by go_num,all_snoc s k hlt HAh.out h1 h2⟩
        case measure => simp [intOf]; omega
      · have HN : Hid (wordB s.data.toList = false) := word_no s k hlt (by omega)
        go_wp2
        go_ret
        exact ⟨ret_bool HN.out.symm,rfl⟩
    · have HN : Hid (wordB s.data.toList = false) := word_no s k hlt (by omega)
      go_wp2
      go_ret
      exact ⟨ret_bool HN.out.symm,rfl⟩
  · have HN : Hid (wordB s.data.toList = decide (0 < s.size)) := by
     have e : s.data.toList.take k = s.data.toList := List.take_of_length_le (by simp; omega)
     have := HAh.out
     rw [e] at this
     show wordB _ = _
     rw [show wordB s.data.toList = !s.data.toList.isEmpty by simp [wordB,this]]
     have hl : s.data.toList.length = s.size := by simp
     cases hd : s.data.toList with
     | nil => rw [hd] at hl; simp at hl; rw [decide_eq_false (by omega)]; rfl
     | cons x y => rw [hd] at hl; simp at hl; rw [decide_eq_true (by omega)]; rfl
    go_wp2
    go_ret
    exact ⟨ret_bool (by rw [HN.out]),rfl⟩
end Go.Proofs.YtpoinibckmbfcaaGreatDoor.Ref01
namespace Go.Proofs.YtpoinibckmbfcaaGreatDoor.StrS
open Go.RowKit Kit StrT
set_option linter.unusedVariables false
set_option maxRecDepth 100000
theorem below_drewN {B : Nat} {a w : World} (h : Below B a w) (q : Nat) : Below B a (w.drewN q) := h.trans ⟨rfl,rfl,rfl,Nat.le_refl _,fun _ _ => rfl⟩
theorem str_eq (a b : List UInt8) : ((⟨a.toArray⟩ : ByteArray).toList != (⟨b.toArray⟩ : ByteArray).toList) = decide (a ≠ b) := by
 rw [ByteArray.toList_eq,ByteArray.toList_eq,Bool.eq_iff_iff,bne_iff_ne,decide_eq_true_eq]
theorem take_eq_iff {X Y : List (List UInt8)} (k : Nat) (hX : k < X.length) (hY : k < Y.length) : X.take (k + 1) = Y.take (k + 1) ↔ X.take k = Y.take k ∧ X[k] = Y[k] := by
 rw [List.take_succ_eq_append_getElem hX,List.take_succ_eq_append_getElem hY]
 constructor
 · intro h
   have := List.append_inj h (by rw [List.length_take,List.length_take]; omega)
   exact ⟨this.1,by simpa using this.2⟩
 · rintro ⟨h1,h2⟩
   rw [h1,h2]
set_option maxHeartbeats 2000000 in
theorem same_texts (q r : Option Addr) (X Y : List (List UInt8)) (n m c d : Nat) (w : World) (hX : X.length = n) (hY : Y.length = m) (h1 : Ss w q X) (h2 : Ss w r Y) (hn : n ≤ 9223372036854775806) :
  Calls Tryz.prog 29 #[.slice q n c,.slice r m d] w fun e w' => e = .returned (.bool (decide (X = Y))) ∧ Below w.heap.size w w' := by
 have HX := Lib.hid hX
 have HY := Lib.hid hY
 have H1 := Lib.hid h1
 have H2 := Lib.hid h2
 clear h1 h2
 by_cases hnm : n = m
 · subst hnm
   have t1 : ((n : Int) != (n : Int)) = false := bne_self_eq_false _
   clear hX hY
   go_enter Tryz.func29,Tryz.ntmps29
   go_wp2_with fail
   go_loopw [5] (fun i wr => ∃ k : Nat,k ≤ n ∧ i = .int .i64 k ∧ Below w.heap.size w wr ∧ Hid (X.take k = Y.take k)) (fun i _ => n - (intOf i).toNat)
   case atStart => exact ⟨0,Nat.zero_le _,rfl,Below.refl _ _,Lib.hid rfl⟩
   case round =>
    obtain ⟨k,hk,rfl,hb,HR⟩ := hrel
    by_cases hlt : k < n
    · have hkx : k < X.length := by rw [HX.out]; exact hlt
      have hky : k < Y.length := by rw [HY.out]; exact hlt
      obtain ⟨b,off,rfl,hbl,hc⟩ := (H1.out.keep hb) (by omega)
      obtain ⟨b2,off2,rfl,hbl2,hc2⟩ := (H2.out.keep hb) (by omega)
      have hu := hc k hkx
      have hv := hc2 k hky
      have he := str_eq X[k] Y[k]
      have hi := take_eq_iff k hkx hky
      obtain ⟨S,hS⟩ : ∃ S : ByteArray,S = ⟨X[k].toArray⟩ := ⟨_,rfl⟩
      obtain ⟨T,hT⟩ : ∃ T : ByteArray,T = ⟨Y[k].toArray⟩ := ⟨_,rfl⟩
      rw [← hS] at hu he
      rw [← hT] at hv he
      clear hS hT hc hc2
      by_cases hxy : X[k] = Y[k]
      · have hE : (S.toList != T.toList) = false := by rw [he]; simp [hxy]
        have hE2 : (S.toList == T.toList) = true := by simpa using hE
        have HN := Lib.hid (hi.2 ⟨HR.out,hxy⟩)
        clear he hi hxy
        go_wp2_with fail
        go_quiet (fail)
        have hbq := below_drewN hb nq
        clear hb hu hv
        generalize wr.drewN nq = wq at hbq ⊢
        go_wp2_with fail
        go_roundw
        case rel => exact ⟨k + 1,by omega,by go_num,hbq,HN⟩
        case measure => simp [intOf]; omega
      · have hE : (S.toList != T.toList) = true := by rw [he]; simp [hxy]
        have hE2 : (S.toList == T.toList) = false := by simpa using hE
        have HF := Lib.hid (show decide (X = Y) = false from decide_eq_false (by rintro rfl; exact hxy rfl))
        clear he hi hxy
        go_wp2_with fail
        go_quiet (fail)
        have hbq := below_drewN hb nq
        clear hb hu hv
        generalize wr.drewN nq = wq at hbq ⊢
        go_wp2_with fail
        go_ret
        exact ⟨ret_bool HF.out.symm,hbq⟩
    · have HF := Lib.hid (show decide (X = Y) = true from decide_eq_true (by
       have h := HR.out
       rwa [List.take_of_length_le (by rw [HX.out]; omega),List.take_of_length_le (by rw [HY.out]; omega)] at h))
      go_wp2_with fail
      go_ret
      exact ⟨ret_bool HF.out.symm,hb⟩
 · have t1 : ((n : Int) != (m : Int)) = true := by rw [bne_iff_ne]; omega
   have HF := Lib.hid (show decide (X = Y) = false from decide_eq_false (by rintro rfl; omega))
   clear hX hY
   go_enter Tryz.func29,Tryz.ntmps29
   go_wp2_with fail
   go_ret
   exact ⟨ret_bool HF.out.symm,Below.refl _ _⟩
end Go.Proofs.YtpoinibckmbfcaaGreatDoor.StrS
namespace Go.Proofs.YtpoinibckmbfcaaGreatDoor.StrS
open Go.RowKit Kit StrT
set_option linter.unusedVariables false
set_option maxRecDepth 100000
set_option maxHeartbeats 1000000 in
theorem in_any (q : Option Addr) (L : List (List UInt8)) (n c : Nat) (T : ByteArray) (t : List UInt8) (w : World) (hn : L.length = n) (h : Ss w q L) (hT : T.data.toList = t) (hz : n ≤ 9223372036854775806) :
  Calls Tryz.prog 74 #[.slice q n c,.string T] w fun e w' => e = .returned (.bool (decide (t ∈ L))) ∧ w' = w := by
 have HN := Lib.hid hn
 have HS := Lib.hid h
 have HT := Lib.hid hT
 clear hn h hT
 go_enter Tryz.func74,Tryz.ntmps74
 go_wp2_with fail
 go_loopw [5] (fun i wr => ∃ k : Nat,k ≤ n ∧ i = .int .i64 k ∧ Hid (∀ x ∈ L.take k,x ≠ t) ∧ wr = w) (fun i _ => n - (intOf i).toNat)
 case atStart => exact ⟨0,Nat.zero_le _,rfl,Lib.hid (fun x hx => by simp at hx),rfl⟩
 case round =>
  obtain ⟨k,hk,rfl,HR,rfl⟩ := hrel
  by_cases hlt : k < n
  · have d1 : decide ((k : Int) < (n : Int)) = true := decide_eq_true (by omega)
    have hk0 : (0 : Int) ≤ (k : Int) := by omega
    have hkn : (k : Int) < (n : Int) := by omega
    have hkl : k < L.length := by rw [HN.out]; exact hlt
    obtain ⟨b,off,rfl,hbl,hc⟩ := HS.out (by omega)
    have hu := hc k hkl
    have hst : L.take (k + 1) = L.take k ++ [L[k]] := List.take_succ_eq_append_getElem hkl
    have hm : L[k] ∈ L := List.getElem_mem hkl
    obtain ⟨x,hx⟩ : ∃ x,x = L[k] := ⟨_,rfl⟩
    rw [← hx] at hu hst hm
    obtain ⟨S,hS⟩ : ∃ S : ByteArray,S = ⟨x.toArray⟩ := ⟨_,rfl⟩
    rw [← hS] at hu
    have hE : (S.toList == T.toList) = decide (x = t) := by
     rw [ByteArray.toList_eq,ByteArray.toList_eq,HT.out,hS,Bool.eq_iff_iff,beq_iff_eq,decide_eq_true_eq]
    by_cases hxt : x = t
    · have hE2 : (S.toList == T.toList) = true := by rw [hE]; exact decide_eq_true hxt
      have HF := Lib.hid (show decide (t ∈ L) = true from decide_eq_true (by rw [← hxt]; exact hm))
      clear hE hS hc hst hm hx hxt
      go_wp2_with fail
      go_ret
      exact ⟨ret_bool HF.out.symm,rfl⟩
    · have hE2 : (S.toList == T.toList) = false := by rw [hE]; exact decide_eq_false hxt
      have HNx := Lib.hid (show ∀ y ∈ L.take (k + 1),y ≠ t from fun y hy => by
       rw [hst] at hy
       rcases List.mem_append.1 hy with hy | hy
       · exact HR.out y hy
       · rw [List.mem_singleton.1 hy]; exact hxt)
      clear hE hS hc hst hm hx hxt
      go_wp2_with fail
      go_roundw
      case rel => exact ⟨k + 1,by omega,by go_num,HNx,trivial⟩
      case measure => simp [intOf]; omega
  · have d1 : decide ((k : Int) < (n : Int)) = false := decide_eq_false (by omega)
    have HF := Lib.hid (show decide (t ∈ L) = false from decide_eq_false (fun hm => by
     have h := HR.out
     rw [List.take_of_length_le (by rw [HN.out]; omega)] at h
     exact h t hm rfl))
    go_wp2_with fail
    go_ret
    exact ⟨ret_bool HF.out.symm,rfl⟩
end Go.Proofs.YtpoinibckmbfcaaGreatDoor.StrS
namespace Go.Proofs.YtpoinibckmbfcaaGreatDoor.RefUser
open Go.RowKit Kit StrT RowG RuleT UserT UserR
open StrS (below_drewN)
open Go.Sort (grow)
set_option linter.unusedVariables false
set_option maxRecDepth 100000
theorem beq_texts (a b : List UInt8) : ((⟨a.toArray⟩ : ByteArray).toList == (⟨b.toArray⟩ : ByteArray).toList) = decide (a = b) := by
 rw [ByteArray.toList_eq,ByteArray.toList_eq,Bool.eq_iff_iff,beq_iff_eq,decide_eq_true_eq]
end Go.Proofs.YtpoinibckmbfcaaGreatDoor.RefUser
namespace Go.Proofs.YtpoinibckmbfcaaGreatDoor.ValT
open Go.RowKit Kit RowG
set_option linter.unusedVariables false
set_option maxRecDepth 100000
theorem flat_set {α : Type} (E : Enc α) (a : α) (d : Nat) (u : Value) : ∀ (L : List α) (i : Nat) (h : i < L.length),E.enc a = (E.enc L[i]).set d u → d < E.sz → flat E (L.set i a) = (flat E L).set (i * E.sz + d) u
  | c :: L,0,h,he,hd => by
    rw [List.set_cons_zero,flat_cons,flat_cons,Nat.zero_mul,Nat.zero_add,List.set_append_left _ _ (by rw [E.len]; exact hd)]
    rw [he]
    rfl
  | c :: L,i + 1,h,he,hd => by
    rw [List.set_cons_succ,flat_cons,flat_cons,List.set_append_right _ _ (by rw [E.len,Nat.succ_mul]; omega),show (i + 1) * E.sz + d - (E.enc c).length = i * E.sz + d by rw [E.len,Nat.succ_mul]; omega]
    rw [flat_set E a d u L i (by simpa using h) he hd]
def OwnB {α : Type} (E : Enc α) (w : World) (g n cap : Nat) (L : List α) : Prop :=
 L.length = n ∧ n ≤ cap ∧ ∃ cur,w.heap[g]? = some (.cells cur E.ty (0,0)) ∧ cap ≤ 9223372036854775807 ∧ cur.size = cap * E.sz ∧ cur.toList.take (n * E.sz) = flat E L
theorem OwnB.keep {α : Type} {E : Enc α} {w w' : World} {g n cap : Nat} {L : List α} (h : OwnB E w g n cap L) (hb : Below w.heap.size w w') : OwnB E w' g n cap L := by
 obtain ⟨h1,h2,cur,h3,h4⟩ := h
 exact ⟨h1,h2,cur,by rw [hb.block g (Array.getElem?_eq_some_iff.1 h3).1]; exact h3,h4⟩
theorem OwnB.lt {α : Type} {E : Enc α} {w : World} {g n cap : Nat} {L : List α} (h : OwnB E w g n cap L) : g < w.heap.size := by
 obtain ⟨h1,h2,cur,h3,h4⟩ := h
 exact (Array.getElem?_eq_some_iff.1 h3).1
theorem OwnB.frz {α : Type} {E : Enc α} {w : World} {g n cap : Nat} {L : List α} (h : OwnB E w g n cap L) (j : Nat) : w.frozen? ⟨g,j,none⟩ = false := by
 obtain ⟨h1,h2,cur,h3,h4⟩ := h
 exact frozen_of_row _ _ _ _ E.ty h3
theorem OwnB.cell {α : Type} {E : Enc α} {w : World} {g n cap : Nat} {L : List α} (h : OwnB E w g n cap L) (i d : Nat) (hi : i < L.length) (hd : d < E.sz) : w.cell? ⟨g,i * E.sz + d,none⟩ = (E.enc L[i])[d]? := by
 obtain ⟨h1,h2,cur,h3,h4,h5,h6⟩ := h
 rw [cell_of_row _ _ _ _ E.ty _ h3,← flat_at E L i hi d hd,← h6,List.getElem?_take,if_pos (mul_lt (by omega) hd)]
 simp
theorem OwnB.set {α : Type} {E : Enc α} {w : World} {g n cap : Nat} {L : List α} (h : OwnB E w g n cap L) (i d : Nat) (a : α) (u : Value) (hi : i < L.length) (hd : d < E.sz) (he : E.enc a = (E.enc L[i]).set d u) : OwnB E (w.setCell ⟨g,i * E.sz + d,none⟩ u) g n cap (L.set i a) := by
 obtain ⟨h1,h2,cur,h3,h4,h5,h6⟩ := h
 refine ⟨by rw [List.length_set]; exact h1,h2,_,heap_setCell_same _ _ _ _ _ _ h3,h4,by simpa using h5,?_⟩
 rw [flat_set E a d u L i hi he hd,← h6,Array.toList_setIfInBounds,List.take_set]
theorem OwnB.other {α : Type} {E : Enc α} {w : World} {g n cap : Nat} {L : List α} (h : OwnB E w g n cap L) (p : Addr) (u : Value) (hp : g ≠ p.block) : OwnB E (w.setCell p u) g n cap L := by
 obtain ⟨h1,h2,cur,h3,h4⟩ := h
 exact ⟨h1,h2,cur,by rw [heap_setCell_other _ _ _ _ hp]; exact h3,h4⟩
theorem OwnB.rs {α : Type} {E : Enc α} {w : World} {g n cap : Nat} {L : List α} (h : OwnB E w g n cap L) : Rs E w (some ⟨g,0,none⟩) L := fun _ => by
 have hlt := h.lt
 obtain ⟨h1,h2,cur,h3,h4,h5,h6⟩ := h
 refine ⟨g,0,rfl,hlt,fun j hj => ?_⟩
 rw [Nat.zero_add,cell_of_row _ _ _ _ E.ty _ h3,← h6,List.getElem?_take,if_pos (by rw [← h1]; exact hj)]
 simp
def RowO {α : Type} (E : Enc α) (base : Nat) (w : World) (v : Value) (L : List α) : Prop :=
 ∃ q c,v = .slice q L.length c ∧ L.length ≤ c ∧ c ≤ 9223372036854775807 ∧ (q = none → c = 0) ∧ (L = [] ∨ ∃ g,q = some ⟨g,0,none⟩ ∧ base ≤ g ∧ OwnB E w g L.length c L)
theorem OwnR.rowO {α : Type} {E : Enc α} {base : Nat} {w : World} {v : Value} {L : List α} (h : OwnR E base w v L) : RowO E base w v L := by
 rcases id h.2 with ⟨rfl,h0⟩ | ⟨g,cap,cur,rfl,hgb,hh,hc,hm,hsz,htake⟩
 · obtain rfl : L = [] := List.eq_nil_of_length_eq_zero h0
   exact ⟨none,0,rfl,by simp,by omega,(fun _ => rfl),Or.inl rfl⟩
 · unfold maxLen at hm
   exact ⟨_,cap,rfl,hc,by omega,(fun h => by cases h),Or.inr ⟨g,rfl,hgb,rfl,hc,cur,hh,by omega,hsz,htake⟩⟩
end Go.Proofs.YtpoinibckmbfcaaGreatDoor.ValT
namespace Go.Proofs.YtpoinibckmbfcaaGreatDoor.RowG
open Go.RowKit Kit ValT
set_option linter.unusedVariables false
set_option maxRecDepth 100000
variable {α : Type} {E : Enc α} {w : World} {g n cap : Nat} {L : List α}
theorem elemE (E : Enc α) : Tryz.prog.underlying E.slt = some (.slice (Tryz.prog.elem E.slt)) := by
 simp [Program.elem,E.und]
theorem elem_is (E : Enc α) : Tryz.prog.elem E.slt = E.ty := by
 simp [Program.elem,E.und]
theorem sizeE (E : Enc α) (w : World) : (Go.sizeOf (Tryz.prog.elem E.slt)).run Tryz.prog w = .ok E.sz w := by
 obtain ⟨i0,hi0,hz0,hz1,hzb⟩ := info_parts E.info
 rw [elem_is]
 simp [sizeOf,typeInfo,hi0,hz1]
theorem sl_from (E : Enc α) (q : Option Addr) (n c lo : Nat) (h1 : lo ≤ n) (h2 : n ≤ c) (W : World) :
  (Instr.slice E.slt (.slice q n c) (some (.int .i64 (lo : Int))) none none).run Tryz.prog W = .ok (.slice (partAt E q c lo) (n - lo) (c - lo)) W := by
 rw [run_slice_l (P := Tryz.prog) W E.slt q n c (elemE E) .i64 (lo : Int) (by omega) (by omega),sizeE]
 simp [Result.andThen,sliced,partAt]
theorem sl_upto (E : Enc α) (q : Option Addr) (n c hi : Nat) (h1 : hi ≤ c) (W : World) :
  (Instr.slice E.slt (.slice q n c) none (some (.int .i64 (hi : Int))) none).run Tryz.prog W = .ok (.slice q hi c) W := by
 rw [run_slice_h (P := Tryz.prog) W E.slt q n c (elemE E) .i64 (hi : Int) (by omega) (by omega),sizeE]
 simp only [Result.andThen,sliced]
 have := part_zero E q c
 unfold partAt at this
 simpa using this
theorem ownB_take (h : OwnB E w g n cap L) (i : Nat) (hi : i ≤ n) : OwnB E w g i cap (L.take i) := by
 obtain ⟨h1,h2,cur,h3,h4,h5,h6⟩ := h
 refine ⟨by rw [List.length_take]; omega,by omega,cur,h3,h4,h5,?_⟩
 rw [flat_take,← h6,List.take_take,Nat.min_eq_left (Nat.mul_le_mul_right _ hi)]
structure InB (E : Enc α) (w w' : World) (g n cap : Nat) (L : List α) : Prop where
 ow : OwnB E w' g n cap L
 bl : ∀ B w0,Below B w0 w → B ≤ g → Below B w0 w'
 ot : ∀ k,k ≠ g → w'.heap[k]? = w.heap[k]?
 sz : w'.heap.size = w.heap.size
theorem run_clear_in (ty : TypeId) (h : OwnB E w g n cap L) (hz : ∀ u ∈ E.zero.cells.toList,u.oneCell' = true) (o k c p : Nat) (hp : p = o * E.sz) (ho : n ≤ o) (hk : o + k ≤ cap) :
  ∃ w',(Builtin.clear_ #[E.slt] ty #[.slice (some ⟨g,p,none⟩) k c]).run Tryz.prog w = .ok (.tuple #[]) w' ∧ InB E w w' g n cap L := by
 subst hp
 obtain ⟨i0,hi0,hz0,hz1,hzb⟩ := info_parts E.info
 cases k with
 | zero => exact ⟨w,by simp [Builtin.clear_,run_underlying E.und],h,fun B w0 hb _ => hb,fun k _ => rfl,rfl⟩
 | succ k =>
   obtain ⟨h1,h2,cur,h3,h4,h5,h6⟩ := h
   have hadd : o * E.sz + (k + 1) * E.sz = (o + (k + 1)) * E.sz := (Nat.add_mul _ _ _).symm
   have hle : (o + (k + 1)) * E.sz ≤ cap * E.sz := Nat.mul_le_mul_right _ hk
   have hno : n * E.sz ≤ o * E.sz := Nat.mul_le_mul_right _ ho
   have hzl : (Builtin.zeroCells E.zero.cells (k + 1)).toList.length = (k + 1) * E.sz := by
    have := size_zeroCells E.zero.cells (k + 1)
    rw [E.zlen] at this
    simpa using this
   have hst := run_storeCells_at Tryz.prog g (o * E.sz) E.ty (Builtin.zeroCells E.zero.cells (k + 1)).toList 0 cur w h3 (by rw [hzl,h5]; omega) (fun u hu => by
    unfold Builtin.zeroCells at hu
    simp at hu
    obtain ⟨j,hj,rfl⟩ := hu
    have hlt : j % E.zero.cells.size < E.zero.cells.size := Nat.mod_lt _ (by rw [E.zlen]; exact E.pos)
    rw [getElem!_pos E.zero.cells _ hlt]
    exact hz _ (by simp))
   rw [hzl] at hst
   refine ⟨_,by simp [Builtin.clear_,run_underlying E.und,zeroValue,typeInfo,hi0,hz0,hst]; rfl,⟨h1,h2,_,setRow_heap w g cur _ E.ty _ h3,h4,?_,?_⟩,fun B w0 hb hB => below_setRow hb hB _,fun k hk => setRow_other w g k _ hk,by simp⟩
   · simp only [List.size_toArray,List.length_append,List.length_take,List.length_drop,Array.length_toList,hzl]
     omega
   · rw [← h6]
     rw [List.toList_toArray,List.take_append_of_le_length (by simp; omega),List.take_take,Nat.min_eq_left hno]
end Go.Proofs.YtpoinibckmbfcaaGreatDoor.RowG
namespace Go.Proofs.YtpoinibckmbfcaaGreatDoor.BytesIn
open Go.RowKit Kit
set_option linter.unusedVariables false
set_option maxRecDepth 100000
def Bs (w : World) (p : Option Addr) (l : List UInt8) : Prop :=
 0 < l.length → ∃ b off,p = some ⟨b,off,none⟩ ∧ b < w.heap.size ∧ ∀ j (h : j < l.length),w.cell? ⟨b,off + j,none⟩ = some (.int .u8 (l[j].toNat : Int))
theorem Bs.keep {w w' : World} {p : Option Addr} {l : List UInt8} (h : Bs w p l) (hb : Below w.heap.size w w') : Bs w' p l := by
 intro h0
 obtain ⟨b,off,hp,hlt,hc⟩ := h h0
 exact ⟨b,off,hp,Nat.lt_of_lt_of_le hlt hb.size,fun j hj => by rw [hb.cell (p := ⟨b,off + j,none⟩) hlt]; exact hc j hj⟩
theorem row_one (W : World) (x : UInt8) (t : TypeId) : Row8 (W.alloc (.cells #[.int .u8 (x.toNat : Int)] t)) W.heap.size [x] := by
 intro j hj
 have hh := heap_alloc_last W (.cells #[.int .u8 (x.toNat : Int)] t)
 match j,hj with
 | 0,_ => exact ⟨by rw [cell_of_row _ _ _ _ _ _ hh]; rfl,Go.Lib.frozen_of_heap hh 0⟩
 | j + 1,hj => simp at hj
end Go.Proofs.YtpoinibckmbfcaaGreatDoor.BytesIn
namespace Go.Proofs.YtpoinibckmbfcaaGreatDoor.ReplyMath
open Go.Lib NumMath
set_option linter.unusedVariables false
def fl (c : UInt8) : UInt8 := if c = 13 ∨ c = 10 then 32 else c
def flat (s : List UInt8) : List UInt8 := s.map fl
def cutE : List UInt8 → Option (List UInt8 × List UInt8)
  | [] => none
  | c :: r => if c = 13 ∧ r.head? = some 10 then some ([],r.tail) else (cutE r).map fun p => (c :: p.1,p.2)
def clean (s : List UInt8) : Bool := s.all fun c => c != 13 && c != 10
def bulkOf (n : Int) (r : List UInt8) : Option (List UInt8 × Nat) :=
 if n = -1 then some (r,0) else if 0 ≤ n ∧ (r.drop n.toNat).take 2 = [13,10] then some (r.drop (n.toNat + 2),0) else none
def arrOf (n : Int) (r : List UInt8) : Option (List UInt8 × Nat) :=
 if n = -1 then some (r,0) else if 0 ≤ n then some (r,n.toNat) else none
def kind (k : UInt8) (s r : List UInt8) : Option (List UInt8 × Nat) :=
 if k = 43 ∨ k = 45 then (if clean s = true then some (r,0) else none)
 else if k = 58 then (if (parse s).isSome = true then some (r,0) else none)
 else if k = 36 then (parse s).bind fun n => bulkOf n r
 else if k = 42 then (parse s).bind fun n => arrOf n r
 else none
def one (l : List UInt8) : Option (List UInt8 × Nat) :=
 (cutE l).bind fun p => p.1.head?.bind fun k => kind k p.1.tail p.2
inductive Skips : Nat → List UInt8 → List UInt8 → Prop
  | none (l : List UInt8) : Skips 0 l l
  | more {n m : Nat} {l r t : List UInt8} (h : one l = some (r,m)) (hs : Skips (n + m) r t) : Skips (n + 1) l t
theorem Skips.add {n m : Nat} {l r t : List UInt8} (h : Skips n l r) (h' : Skips m r t) : Skips (n + m) l t := by
 induction h with
 | none l => rw [Nat.zero_add]; exact h'
 | @more n k l r _ h hs ih =>
   rw [show n + 1 + m = n + m + 1 by omega]
   refine Skips.more h ?_
   rw [show n + m + k = n + k + m by omega]
   exact ih h'
end Go.Proofs.YtpoinibckmbfcaaGreatDoor.ReplyMath
namespace Go.Proofs.YtpoinibckmbfcaaGreatDoor.ReplyT
open Go.RowKit Kit BytesIn ReplyMath
set_option linter.unusedVariables false
set_option maxRecDepth 100000
theorem u8_parts : (Tryz.prog.info? 5).map (fun i => (i.zero,i.size,i.bytes)) = some (some (.int .u8 0),1,1) := by kernel_rfl
theorem below1 (w : World) (o : Obj) : Below w.heap.size w (w.alloc o) := (Below.refl _ _).alloc (Nat.le_refl _) _
theorem size_bytes (l : List UInt8) : (⟨l.toArray⟩ : ByteArray).size = l.length := by simp [ByteArray.size]
theorem same_bytes {a b : ByteArray} (h : a.data.toList = b.data.toList) : a = b := ByteArray.ext (Array.toList_inj.1 h)
theorem Bs.take {w : World} {p : Option Addr} {l : List UInt8} (h : Bs w p l) (n : Nat) : Bs w p (l.take n) := by
 intro h0
 rw [List.length_take] at h0
 obtain ⟨b,off,hp,hlt,hc⟩ := h (by omega)
 refine ⟨b,off,hp,hlt,fun j hj => ?_⟩
 rw [List.length_take] at hj
 rw [hc j (by omega)]
 simp
theorem bv_at (l : List UInt8) (j : Nat) (h : j < l.length) : (bv l)[j]? = some (.int .u8 (l[j].toNat : Int)) := by simp [bv,h]
theorem copy_src {w : World} {p : Option Addr} {l : List UInt8} (h : Bs w p l) (h0 : 0 < (bv l).length) : ∃ ad,p = some ad ∧ ad.block < w.heap.size ∧ ∀ j v,(bv l)[j]? = some v → w.cell? (ad.add j) = some v := by
 rw [bv_length] at h0
 obtain ⟨b,off,rfl,hlt,hc⟩ := h h0
 refine ⟨_,rfl,hlt,fun j v hv => ?_⟩
 have hj : j < l.length := by
  rcases Nat.lt_or_ge j l.length with h | h
  · exact h
  · rw [List.getElem?_eq_none (by rw [bv_length]; exact h)] at hv; cases hv
 have hv3 := Option.some.inj ((bv_at l j hj).symm.trans hv)
 subst hv3
 rw [Addr.add_lit]
 exact hc j hj
theorem bytes_bs (w : World) (s : ByteArray) : Bs (Lib.bytesWorld w 5 s) (some ⟨w.heap.size,0,none⟩) s.data.toList := by
 intro h0
 refine ⟨_,0,rfl,by rw [Lib.bytesWorld_size]; omega,fun j hj => ?_⟩
 rw [Nat.zero_add]
 exact (bytesWorld_row w 5 s).at_ j hj
def Ans (base : Nat) (w : World) (v : Value) (l : List UInt8) : Prop :=
 ∃ p c,v = .slice p l.length c ∧ Bs w p l ∧ (∀ a,p = some a → base ≤ a.block) ∧ l.length ≤ c ∧ c ≤ 9223372036854775807 ∧ (p = none → c = 0)
theorem Ans.keep {base : Nat} {w w' : World} {v : Value} {l : List UInt8} (h : Ans base w v l) (hb : Below w.heap.size w w') : Ans base w' v l := by
 obtain ⟨p,c,hv,hB,h1⟩ := h
 exact ⟨p,c,hv,hB.keep hb,h1⟩
def Gives (l : List UInt8) (w : World) (e : Ending) (w' : World) : Prop := ∃ v,e = .returned v ∧ Ans w.heap.size w' v l ∧ Below w.heap.size w w'
theorem Gives.of {l l' : List UInt8} {w : World} {e : Ending} {w' : World} (h : Gives l w e w') (hl : l = l') : Gives l' w e w' := hl ▸ h
def Own (base : Nat) (w : World) (v : Value) (l : List UInt8) : Prop := w.ownsRow base 5 1 v l.length (bv l)
theorem Own.new (w : World) : Own w.heap.size (w.alloc (.cells #[] 5)) (.slice (some ⟨w.heap.size,0,none⟩) 0 0) [] :=
 World.ownsRow_lit w #[] 0 (Nat.le_refl _) (by simp [maxLen]) rfl
theorem Own.al {base : Nat} {w : World} {v : Value} {l : List UInt8} (h : Own base w v l) (o : Obj) : Own base (w.alloc o) v l := World.ownsRow.alloc h o
theorem Own.drewN {base : Nat} {w : World} {v : Value} {l : List UInt8} (h : Own base w v l) (q : Nat) : Own base (w.drewN q) v l := h
def Emp (w : World) (g : Nat) : Prop := w.heap[g]? = some (.cells #[] 5 (0,0))
theorem Emp.lt {w : World} {g : Nat} (h : Emp w g) : g < w.heap.size := by
 rcases Nat.lt_or_ge g w.heap.size with h' | h'
 · exact h'
 · unfold Emp at h; rw [Array.getElem?_eq_none h'] at h; cases h
theorem Emp.keep {w w' : World} {g : Nat} (h : Emp w g) (hb : Below w.heap.size w w') : Emp w' g := by
 unfold Emp
 rw [hb.block g h.lt]
 exact h
theorem Emp.own {base : Nat} {w : World} {g : Nat} (h : Emp w g) (hg : base ≤ g) : Own base w (.slice (some ⟨g,0,none⟩) 0 0) [] :=
 ⟨by simp [bv],Or.inr ⟨g,0,#[],rfl,hg,h,Nat.le_refl _,by unfold maxLen; omega,rfl,rfl⟩⟩
theorem lit1_bs (w : World) (c : UInt8) (v : Int) (h : v = (c.toNat : Int)) : Bs (w.alloc (.cells #[.int .u8 v] 5)) (some ⟨w.heap.size,0,none⟩) [c] := by
 subst h
 intro _
 refine ⟨_,0,rfl,by simp,fun j hj => ?_⟩
 match j,hj with
 | 0,_ => simp [World.cell?_alloc_mark]
 | j + 1,hj => simp at hj
end Go.Proofs.YtpoinibckmbfcaaGreatDoor.ReplyT
namespace Go.Proofs.YtpoinibckmbfcaaGreatDoor.RefTab
open Go.RowKit Kit BytesIn ReplyT TableMath
set_option linter.unusedVariables false
set_option maxRecDepth 100000
theorem cmd_parts : (Tryz.prog.info? 80).map (fun i => (i.zero,i.size,i.bytes)) = some (some (.agg #[.string ByteArray.empty,.int .i64 0,.int .u16 0]),3,32) := by kernel_rfl
theorem cmd_size : (Tryz.prog.info? 80).map (·.size) = some 3 := by kernel_rfl
set_option maxHeartbeats 1000000 in
theorem one_no (s : ByteArray) (n g : Int) (w : World) (h0 : 0 ≤ g) (h1 : g ≤ 60000) :
  Calls Tryz.prog 119 #[.string s,.int .i64 n,.int .u16 g,.bool false] w fun e w' => e = .returned (.agg #[.string s,.int .i64 n,.int .u16 (g + 1)]) ∧ Below w.heap.size w w' := by
 have HC := Lib.hid (show (Tryz.prog.info? 80).map (·.size) = some (#[.string s,.int .i64 n,.int .u16 (g + 1)] : Array Value).size from cmd_size)
 have HO := Lib.hid (show (#[.string s,.int .i64 n,.int .u16 (g + 1)] : Array Value).all (·.oneCell') = true by simp [Value.oneCell'])
 have HW := Lib.hid (Kit.below1 w (.cells #[.string ByteArray.empty,.int .i64 0,.int .u16 0] 80))
 go_enter Tryz.func119,Tryz.ntmps119
 go_wp2_with (with_reducible refine wpList_store_row rfl 80 (.tmp 8) (.tmp 19) rfl w.heap.size #[.string s,.int .i64 n,.int .u16 (g + 1)] rfl rfl 80 _ (heap_alloc_last _ _) HC.out rfl HO.out ?_)
 exact bodyPost_ret (results_cell_row rfl _ _ w.heap.size 80 #[.string s,.int .i64 n,.int .u16 (g + 1)] (0,0) _ rfl (setRow_heap _ w.heap.size _ _ _ _ (heap_alloc_last _ _)) Tryz.underlying80 rfl HC.out) rfl ⟨rfl,below_setRow HW.out (Nat.le_refl _) _⟩
set_option maxHeartbeats 1000000 in
theorem one_yes (s : ByteArray) (n g : Int) (w : World) (h0 : 0 ≤ g) (h1 : g ≤ 60000) :
  Calls Tryz.prog 119 #[.string s,.int .i64 n,.int .u16 g,.bool true] w fun e w' => e = .returned (.agg #[.string s,.int .i64 n,.int .u16 (g + 2)]) ∧ Below w.heap.size w w' := by
 have HC := Lib.hid (show (Tryz.prog.info? 80).map (·.size) = some (#[.string s,.int .i64 n,.int .u16 (g + 2)] : Array Value).size from cmd_size)
 have HO := Lib.hid (show (#[.string s,.int .i64 n,.int .u16 (g + 2)] : Array Value).all (·.oneCell') = true by simp [Value.oneCell'])
 have HW := Lib.hid (Kit.below1 w (.cells #[.string ByteArray.empty,.int .i64 0,.int .u16 0] 80))
 go_enter Tryz.func119,Tryz.ntmps119
 go_wp2_with (with_reducible refine wpList_store_row rfl 80 (.tmp 8) (.tmp 14) rfl w.heap.size #[.string s,.int .i64 n,.int .u16 (g + 2)] rfl rfl 80 _ (heap_alloc_last _ _) HC.out rfl HO.out ?_)
 exact bodyPost_ret (results_cell_row rfl _ _ w.heap.size 80 #[.string s,.int .i64 n,.int .u16 (g + 2)] (0,0) _ rfl (setRow_heap _ w.heap.size _ _ _ _ (heap_alloc_last _ _)) Tryz.underlying80 rfl HC.out) rfl ⟨rfl,below_setRow HW.out (Nat.le_refl _) _⟩
theorem lit_cells (W : World) (C : Array Value) (t : TypeId) (g : Nat) (hg : W.heap.size = g) : ∀ j u,C.toList[j]? = some u → (W.alloc (.cells C t)).cell? ((⟨g,0,none⟩ : Addr).add j) = some u := fun j u h => by
 subst hg
 rw [Addr.add_lit,cell_of_row _ _ _ _ t _ (heap_alloc_last W _)]
 simpa using h
theorem all_one (C : Array Value) (h : C.toList.all (·.oneCell') = true) : ∀ u ∈ C.toList,u.oneCell' = true := fun u hu => List.all_eq_true.1 h u hu
theorem own_tab {w : World} {base : Nat} {t : TypeId} {v : Value} {xs : List Value} (h : w.ownsRow base t 3 v 56 xs) (hx : xs = flatV cmds) : ∃ b c,v = .slice (some ⟨b,0,none⟩) 56 c ∧ Tab w b ∧ 56 ≤ c ∧ c ≤ 9223372036854775807 := by
 subst hx
 rcases id h.2 with ⟨e,h0⟩ | ⟨g,cap,cur,rfl,hgb,hh,h1,h2,-⟩
 · cases h0
 · refine ⟨g,cap,rfl,⟨?_,fun j hj => World.ownsRow.cellAt h j (by omega)⟩,h1,by unfold maxLen at h2; omega⟩
   rcases Nat.lt_or_ge g w.heap.size with h' | h'
   · exact h'
   · rw [Array.getElem?_eq_none h'] at hh; cases hh
set_option maxHeartbeats 8000000 in
theorem all_any (w : World) : Calls Tryz.prog 86 #[] w fun e w' => ∃ b c,e = .returned (.slice (some ⟨b,0,none⟩) 56 c) ∧ Tab w' b ∧ 56 ≤ c ∧ c ≤ 9223372036854775807 ∧ Below w.heap.size w w' := by
 obtain ⟨i0,hi0,hz0,hz1,hzb⟩ := info_parts cmd_parts
 have hb := Below.refl w.heap.size w
 go_enter Tryz.func86,Tryz.ntmps86
 go_wp2_with fail
 iterate 42
   first
    | (with_reducible refine (one_no _ _ _ _ (by decide) (by decide)).mono ?_)
    | (with_reducible refine (one_yes _ _ _ _ (by decide) (by decide)).mono ?_)
   rintro e w1 ⟨rfl,hb1⟩
   replace hb := hb.trans (hb1.mono hb.size)
   clear hb1
   go_wp2_with fail
 with_reducible refine (one_yes _ _ _ _ (by decide) (by decide)).mono ?_
 rintro e w1 ⟨rfl,hb1⟩
 replace hb := hb.trans (hb1.mono hb.size)
 clear hb1
 go_wp2_with (at_builtin; refine wpList_append_own _ rfl (.tmp 61) (.tmp 62) 101 rfl w.heap.size 80 i0 _ 3 32 Tryz.underlying101 hi0 hz0 hz1 hzb rfl (by decide) _ 43 _ rfl (World.ownsRow.alloc (World.ownsRow_lit w1 _ 43 hb.size (by decide) rfl) _) ⟨w1.heap.size + 1,0,none⟩ 13 13 _ rfl rfl (lit_cells (w1.alloc _) _ _ _ (by simp)) (all_one _ rfl) (by decide) (by decide) (by simp; have := hb.size; omega) ?_; intro v' w2 hown hgrow _)
 obtain ⟨b,c,rfl,hT,h1,h2⟩ := own_tab hown rfl
 have hbe : Below w.heap.size w w2 := ((hb.alloc hb.size _).alloc (by simp; have := hb.size; omega) _).grown hgrow (by simp; have := hb.size; omega) (fun k hk => by have hk : some w1.heap.size = some k := hk; injection hk with hk; subst hk; exact hb.size)
 clear hown hgrow hb
 go_wp2_with fail
 go_ret
 exact ⟨b,c,rfl,hT,h1,h2,hbe⟩
end Go.Proofs.YtpoinibckmbfcaaGreatDoor.RefTab
namespace Go.Proofs.YtpoinibckmbfcaaGreatDoor.RefTab
open Go.RowKit Kit BytesIn ReplyT TableMath
set_option linter.unusedVariables false
set_option maxRecDepth 100000
theorem build_nil (w : World) : (Instr.build 80 #[]).run Tryz.prog w = .ok (.agg #[.string ⟨#[]⟩,.int .i64 0,.int .u16 0]) w := run_build w 80 _ _ (by kernel_rfl)
theorem results_cell_slot {P : Program} {fn : Func} {p q : Tmp} {ty : TypeId} (h : fn.results = #[.cell p ty,.tmp q]) (tmps : Array Value) (w : World) (g : Nat) (t : TypeId) (cs : Array Value) (fr : Nat × Nat) (d : TypeDesc) (v : Value)
    (hp : tmps.getD p undef = .pointer (some ⟨g,0,none⟩)) (hg : w.heap[g]? = some (.cells cs t fr))
    (hu : P.underlying ty = some d) (hd : (match d with | .struct _ | .array _ _ => true | _ => false) = true) (hi : (P.info? ty).map (·.size) = some cs.size) (hq : tmps.getD q undef = v) :
    (results fn tmps).run P w = .ok (.tuple #[.agg cs,v]) w := by
  have hp' : tmps[p]?.getD undef = .pointer (some ⟨g,0,none⟩) := by simpa using hp
  have hq' : tmps[q]?.getD undef = v := by simpa using hq
  simp [results,h,hp',hq',asAddr,run_loadVar_row w g t ty cs fr d hg hu hd hi]
theorem atV_in {id : Int} (h0 : 0 ≤ id) (h1 : id < 56) : atV id = cmdAt id.toNat := if_pos ⟨h0,h1⟩
theorem atV_out {id : Int} (h : ¬ (0 ≤ id ∧ id < 56)) : atV id = nil := if_neg h
end Go.Proofs.YtpoinibckmbfcaaGreatDoor.RefTab
namespace Go.Proofs.YtpoinibckmbfcaaGreatDoor.LowR
open Go.RowKit Kit Low
set_option linter.unusedVariables false
set_option maxRecDepth 100000
theorem u8_info : (Tryz.prog.info? 5).map (fun i => (i.zero,i.size,i.bytes)) = some (some (.int .u8 0),1,1) := by kernel_rfl
end Go.Proofs.YtpoinibckmbfcaaGreatDoor.LowR
