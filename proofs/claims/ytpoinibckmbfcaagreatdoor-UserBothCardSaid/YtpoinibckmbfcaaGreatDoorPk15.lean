/-
  Packed by program.
-/
import Derived.Test.YtpoinibckmbfcaaGreatDoorPk09
import Derived.Test.YtpoinibckmbfcaaGreatDoorPk14
namespace Go.Proofs.YtpoinibckmbfcaaGreatDoor.RefRule
open Go.RowKit Kit TableMath Low StrT RuleT
open Go.Sort (grow)
set_option linter.unusedVariables false
set_option maxRecDepth 100000
theorem size_l {s : ByteArray} : s.data.toList.length = s.size := by simp
theorem str_of {s : ByteArray} {l : List UInt8} (h : s.data.toList = l) : s = ⟨l.toArray⟩ := by
 apply ByteArray.ext
 apply Array.toList_inj.1
 rw [h]
theorem rule_size : (Tryz.prog.info? 29).map (·.size) = some 5 := by kernel_rfl
theorem build_no (w : World) : (Instr.build 29 #[]).run Tryz.prog w = .ok (.agg #[.int .u8 0,.string ⟨#[]⟩,.bool false,.bool false,.int .u64 0]) w := run_build w 29 _ _ (by kernel_rfl)
theorem build_k (k : Int) (w : World) : (Instr.build 29 #[(0,.int .u8 k)]).run Tryz.prog w = .ok (.agg #[.int .u8 k,.string ⟨#[]⟩,.bool false,.bool false,.int .u64 0]) w := run_build w 29 _ _ (by kernel_rfl)
theorem build_ks (k : Int) (S : ByteArray) (w : World) : (Instr.build 29 #[(0,.int .u8 k),(1,.string S)]).run Tryz.prog w = .ok (.agg #[.int .u8 k,.string S,.bool false,.bool false,.int .u64 0]) w := run_build w 29 _ _ (by kernel_rfl)
theorem build_km (k m : Int) (w : World) : (Instr.build 29 #[(0,.int .u8 k),(4,.int .u64 m)]).run Tryz.prog w = .ok (.agg #[.int .u8 k,.string ⟨#[]⟩,.bool false,.bool false,.int .u64 m]) w := run_build w 29 _ _ (by kernel_rfl)
theorem build_ksrw (k : Int) (S : ByteArray) (a b : Bool) (w : World) : (Instr.build 29 #[(0,.int .u8 k),(1,.string S),(2,.bool a),(3,.bool b)]).run Tryz.prog w = .ok (.agg #[.int .u8 k,.string S,.bool a,.bool b,.int .u64 0]) w := run_build w 29 _ _ (by kernel_rfl)
theorem rule_cs (k : Int) (S : ByteArray) (a b : Bool) (m : Int) : (Tryz.prog.info? 29).map (·.size) = some (#[Value.int .u8 k,.string S,.bool a,.bool b,.int .u64 m] : Array Value).size := rule_size
theorem rule_one (k : Int) (S : ByteArray) (a b : Bool) (m : Int) : (#[Value.int .u8 k,.string S,.bool a,.bool b,.int .u64 m] : Array Value).all (·.oneCell') = true := by simp [Value.oneCell']
theorem patD_yes {k : Nat} {s : List UInt8} {r w : Bool} (h : NumW.wordB s = true) : patD k s r w = some ⟨k,s,r,w,0⟩ := if_pos h
theorem patD_no {k : Nat} {s : List UInt8} {r w : Bool} (h : NumW.wordB s = false) : patD k s r w = none := if_neg (by rw [h]; exact Bool.false_ne_true)
def ansR (o : Option RV) (e : Ending) : Prop := e = .returned (.tuple #[(o.getD noR).agg,.bool o.isSome])
theorem results_cell_slot {P : Program} {fn : Func} {p q : Tmp} {ty : TypeId} (h : fn.results = #[.cell p ty,.tmp q]) (tmps : Array Value) (w : World) (g : Nat) (t : TypeId) (cs : Array Value) (fr : Nat × Nat) (d : TypeDesc) (v : Value)
    (hp : tmps.getD p undef = .pointer (some ⟨g,0,none⟩)) (hg : w.heap[g]? = some (.cells cs t fr))
    (hu : P.underlying ty = some d) (hd : (match d with | .struct _ | .array _ _ => true | _ => false) = true) (hi : (P.info? ty).map (·.size) = some cs.size) (hq : tmps.getD q undef = v) :
    (results fn tmps).run P w = .ok (.tuple #[.agg cs,v]) w := by
  have hp' : tmps[p]?.getD undef = .pointer (some ⟨g,0,none⟩) := by simpa using hp
  have hq' : tmps[q]?.getD undef = v := by simpa using hq
  simp [results,h,hp',hq',asAddr,run_loadVar_row w g t ty cs fr d hg hu hd hi]
theorem ans_of {o : Option RV} {v : RV} {k m : Int} {S : ByteArray} {a b : Bool} (h : o = some v) (hk : k = (v.kind : Int)) (hS : S = ⟨v.s.toArray⟩) (ha : a = v.r) (hb : b = v.w) (hm : m = (v.mask : Int)) : ansR o (.returned (.tuple #[.agg #[.int .u8 k,.string S,.bool a,.bool b,.int .u64 m],.bool true])) := by
 subst h hk hS ha hb hm
 rfl
theorem ans_no {o : Option RV} (h : o = none) : ansR o (.returned (.tuple #[.agg #[.int .u8 0,.string ⟨#[]⟩,.bool false,.bool false,.int .u64 0],.bool false])) := by
 subst h
 rfl
end Go.Proofs.YtpoinibckmbfcaaGreatDoor.RefRule
namespace Go.Proofs.YtpoinibckmbfcaaGreatDoor.Kit
open Go Go.Sort
set_option linter.unusedVariables false
end Go.Proofs.YtpoinibckmbfcaaGreatDoor.Kit
namespace Go.Proofs.YtpoinibckmbfcaaGreatDoor.RefRule
open Go.RowKit Kit TableMath Low StrT RuleT
open Go.Sort (grow)
set_option linter.unusedVariables false
set_option maxRecDepth 100000
theorem mask_at {l R : List UInt8} (h : l.take 1 = [64]) (hR : R = l.drop 1) : (maskD l).getD 0 = catV R ∧ (maskD l).isSome = catB R := by
 subst hR
 unfold maskD
 rw [if_pos h]
 cases hb : catB (l.drop 1) with
 | true => exact ⟨rfl,rfl⟩
 | false =>
   have := catV_none (s := l.drop 1) (by unfold catB at hb; simpa using hb)
   exact ⟨this.1.symm,rfl⟩
theorem mask_none {l : List UInt8} (h : l.take 1 ≠ [64]) (h2 : ¬ (findB (lowL l) = true ∧ lowL l = l)) : (maskD l).getD 0 = 0 ∧ (maskD l).isSome = false := by
 unfold maskD
 rw [if_neg h,if_neg h2]
 exact ⟨rfl,rfl⟩
theorem mask_some {l : List UInt8} (h : l.take 1 ≠ [64]) (h2 : findB (lowL l) = true ∧ lowL l = l) (id : Nat) (hi : findV (lowL l) = (id : Int)) : (maskD l).getD 0 = 2 ^ id ∧ (maskD l).isSome = true := by
 unfold maskD
 rw [if_neg h,if_pos h2,hi]
 exact ⟨rfl,rfl⟩
theorem find_id {l : List UInt8} (h : findB l = true) : ∃ id : Nat,id < 56 ∧ findV l = (id : Int) := by
 unfold findB at h
 have h := of_decide_eq_true h
 exact ⟨findK l,h,by unfold findV; rw [if_pos h]⟩
theorem shl_one (j : Nat) (hj : j < 56) : IntKind.u64.wrap (2 ^ j) = ((2 ^ j : Nat) : Int) := by
 have h1 : 2 ^ j ≤ 2 ^ 55 := Nat.pow_le_pow_right (by decide) (by omega)
 have e : (2 : Int) ^ j = ((2 ^ j : Nat) : Int) := by rw [Int.natCast_pow]; rfl
 rw [e]
 obtain ⟨P,hP⟩ : ∃ P,P = 2 ^ j := ⟨_,rfl⟩
 rw [← hP] at h1 ⊢
 have e55 : (2 : Nat) ^ 55 = 36028797018963968 := by decide
 rw [e55] at h1
 rw [IntKind.wrap_u64]
 omega
theorem ret_mb {a a' : Int} {b b' : Bool} (h : a = a') (h' : b = b') : Ending.returned (.tuple #[.int .u64 a,.bool b]) = .returned (.tuple #[.int .u64 a',.bool b']) := by rw [h,h']
end Go.Proofs.YtpoinibckmbfcaaGreatDoor.RefRule
namespace Go.Proofs.YtpoinibckmbfcaaGreatDoor.RefRule
open Go.RowKit Kit TableMath Low StrT RuleT
open Go.Sort (grow)
set_option linter.unusedVariables false
set_option maxRecDepth 100000
structure ML (w : World) (g b1 : Nat) (w1 : World) : Prop where
 b : Below w.heap.size w w1
 h : w1.heap[g]? = some (.cells #[.int .u8 0,.string ⟨#[]⟩,.bool false,.bool false,.int .u64 0] 29 (0,0))
 c1 : ∀ k (h : k < 10),w1.cell? ⟨b1,k,none⟩ = some (.string ⟨(marks[k]'h).toArray⟩)
 l0 : g < w1.heap.size
 l1 : b1 < w1.heap.size
theorem ML.keep {w w1 w2 : World} {g b1 : Nat} (h : ML w g b1 w1) (hb : Below w1.heap.size w1 w2) : ML w g b1 w2 :=
 ⟨h.b.trans (hb.mono h.b.size),by rw [hb.block _ h.l0]; exact h.h,fun k hk => by rw [hb.cell (p := ⟨b1,k,none⟩) h.l1]; exact h.c1 k hk,Nat.lt_of_lt_of_le h.l0 hb.size,Nat.lt_of_lt_of_le h.l1 hb.size⟩
theorem ML.drewN {w w1 : World} {g b1 : Nat} (h : ML w g b1 w1) (q : Nat) : ML w g b1 (w1.drewN q) :=
 h.keep ⟨rfl,rfl,rfl,Nat.le_refl _,fun _ _ => rfl⟩
end Go.Proofs.YtpoinibckmbfcaaGreatDoor.RefRule
