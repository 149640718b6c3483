/-
  Rules in blocks of their own, and the document's examples of layer 17, over the contract of the landed code.
-/
import Derived.Test.YtdhhiodnnnfioaaDoorRuleCode
namespace Go.Proofs.YtdhhiodnnnfioaaDoor.RuleL
open Go.RowKit Kit TableMath Low StrT RuleT RefRule RuleM
open Go.Sort (grow)
set_option linter.unusedVariables false
set_option maxRecDepth 100000

/-- A rule that lies in a block of its own. -/
def RAt (w : World) (g : Nat) (k : Int) (S : ByteArray) (a b : Bool) (m : Int) : Prop := g < w.heap.size ∧ w.heap[g]? = some (.cells #[.int .u8 k, .string S, .bool a, .bool b, .int .u64 m] 25 (0, 0))
theorem RAt.keep {w w' : World} {g : Nat} {k : Int} {S : ByteArray} {a b : Bool} {m : Int} (h : RAt w g k S a b m) (hb : Below w.heap.size w w') : RAt w' g k S a b m :=
  ⟨Nat.lt_of_lt_of_le h.1 hb.size, by rw [hb.block _ h.1]; exact h.2⟩
theorem RAt.row {w : World} {g : Nat} {k : Int} {S : ByteArray} {a b : Bool} {m : Int} (h : RAt w g k S a b m) : w.heap[g]? = some (.cells #[.int .u8 k, .string S, .bool a, .bool b, .int .u64 m] 25 (0, 0)) := h.2
theorem RAt.cells {w : World} {g : Nat} {k : Int} {S : ByteArray} {a b : Bool} {m : Int} (h : RAt w g k S a b m) :
    w.cell? ⟨g, 0, none⟩ = some (.int .u8 k) ∧ w.cell? ⟨g, 1, none⟩ = some (.string S) ∧ w.cell? ⟨g, 2, none⟩ = some (.bool a) ∧ w.cell? ⟨g, 3, none⟩ = some (.bool b) ∧ w.cell? ⟨g, 4, none⟩ = some (.int .u64 m) := by
  refine ⟨?_, ?_, ?_, ?_, ?_⟩ <;> rw [cell_of_row _ _ _ _ _ _ h.2] <;> rfl
theorem rat_new (w : World) (k : Int) (S : ByteArray) (a b : Bool) (m : Int) (W : World) (g : Nat) (hW : W = w.alloc (.cells #[.int .u8 k, .string S, .bool a, .bool b, .int .u64 m] 25)) (hg : g = w.heap.size) : RAt W g k S a b m ∧ Below w.heap.size w W := by
  subst hW hg
  exact ⟨⟨by simp, heap_alloc_last _ _⟩, Kit.below1 _ _⟩
/-- What is answered, told. -/
def RAns (o : Option RV) (k : Int) (S : ByteArray) (a b : Bool) (m : Int) (ok : Bool) : Prop := (Ending.returned (.tuple #[(o.getD noR).agg, .bool o.isSome])) = .returned (.tuple #[.agg #[.int .u8 k, .string S, .bool a, .bool b, .int .u64 m], .bool ok])
theorem rans_some {o : Option RV} {v : RV} (h : o = some v) : RAns o (v.kind : Int) ⟨v.s.toArray⟩ v.r v.w (v.mask : Int) true := by
  subst h
  rfl
theorem rans_none {o : Option RV} (h : o = none) : RAns o 0 ⟨#[]⟩ false false 0 false := by
  subst h
  rfl
def CRule (k : Int) (S : ByteArray) (a b : Bool) (m : Int) (ok : Bool) (w : World) (e : Ending) (w' : World) : Prop := e = .returned (.tuple #[.agg #[.int .u8 k, .string S, .bool a, .bool b, .int .u64 m], .bool ok]) ∧ Below w.heap.size w w'
theorem rule_is (T : ByteArray) (hz : T.size ≤ 1048000) {k : Int} {S : ByteArray} {a b : Bool} {m : Int} {ok : Bool} (h : RAns (ruleD T.data.toList) k S a b m ok) (w : World) (hg : Gw w) : Calls Tryd.prog 8 #[.string T] w (CRule k S a b m ok w) :=
  (rule_any T w hz hg).mono fun e w' hh => ⟨hh.1.trans h, hh.2⟩
/-- A whole struct taken, as one of several operations whose order is open. -/
theorem quiet_load_rowB {P : Program} {w0 : World} {o : Oper} {a : Act} {K : Act → Prop} (ty : TypeId) (x : Operand) (ho : o.op = .load ty x)
    (g : Nat) (hx : a.eval x = .pointer (some ⟨g, 0, none⟩)) (t : TypeId) (cs : Array Value) (hp : w0.heap[g]? = some (.cells cs t (0, 0))) (d : TypeDesc)
    (hu : P.underlying ty = some d) (hd : (match d with | .struct _ | .array _ _ => true | _ => false) = true) (hi : (P.info? ty).map (·.size) = some cs.size)
    (h : K (a.put o.dst (.agg cs))) : o.quiet P a (fun w' => ∃ p : Regrown, w' = grow (redrawn w0 p.d) p.os) K := by
  refine ⟨_, ?_, h⟩
  rintro _ ⟨p, rfl⟩
  unfold Oper.quietAt execOp
  have hlt := (Array.getElem?_eq_some_iff.1 hp).1
  simp only [ho, hx, Instr.loadAt, Instr.sureAddr, Sem.run_bind, Sem.run_pure, Result.andThen_ok, run_loadVar_row (grow (redrawn w0 p.d) p.os) g t ty _ (0, 0) d (by rw [(below_regrown w0 p.d p.os).block g hlt]; exact hp) hu hd hi]
  exact ⟨rfl, rfl⟩

theorem build_krs (k : Int) (S : ByteArray) (a : Bool) (w : World) : (Instr.build 25 #[(0, .int .u8 k), (1, .string S), (2, .bool a)]).run Tryd.prog w = .ok (.agg #[.int .u8 k, .string S, .bool a, .bool false, .int .u64 0]) w := run_build w 25 _ _ (by kernel_rfl)
set_option maxHeartbeats 1000000 in
theorem shown_any (w : World) (hg : Gw w) : Calls Tryd.prog 7 #[] w fun e w' => e = .returned (.bool true) ∧ Below w.heap.size w w' := by
  have C1 := Lib.hid (fun W hW => rule_is ⟨#[37, 82, 126, 97, 42]⟩ (by decide) (rans_some rule_shown) W hW)
  have C2 := Lib.hid (fun W hW => rule_is ⟨#[79, 78]⟩ (by decide) (rans_none rule_upper) W hW)
  have HG := Lib.hid hg
  have bb := build_krs
  obtain ⟨S, hS⟩ : ∃ S : ByteArray, S = ⟨#[97, 42]⟩ := ⟨_, rfl⟩
  clear hg
  go_enter Tryd.func7, Tryd.ntmps7
  go_wp2_with fail
  refine (C1.out _ HG.out).mono ?_
  rintro e w1 ⟨rfl, hb1⟩
  have HB1 := Lib.hid hb1
  obtain ⟨W1, hW1⟩ : ∃ W, W = w1.alloc (.cells #[.int .u8 10, .string ⟨#[97, 42]⟩, .bool true, .bool false, .int .u64 0] 25) := ⟨_, rfl⟩
  obtain ⟨g1, hg1⟩ : ∃ k, k = w1.heap.size := ⟨_, rfl⟩
  obtain ⟨hr1, hbb⟩ := rat_new w1 _ _ _ _ _ W1 g1 hW1 hg1
  have HR1 := Lib.hid hr1
  have HB2 := Lib.hid (HB1.out.trans (hbb.mono HB1.out.size))
  clear hb1 HB1 hr1 hbb C1
  go_upto_region 2 with fail
  rw [← hW1, ← hg1]
  clear hW1 hg1
  go_wp2_with fail
  refine (C2.out _ (HG.out.keep HB2.out)).mono ?_
  rintro e w2 ⟨rfl, hb2⟩
  have HB3 := Lib.hid (HB2.out.trans (hb2.mono HB2.out.size))
  have HR2 := Lib.hid (HR1.out.keep hb2)
  obtain ⟨W2, hW2⟩ : ∃ W, W = w2.alloc (.cells #[.int .u8 0, .string ⟨#[]⟩, .bool false, .bool false, .int .u64 0] 25) := ⟨_, rfl⟩
  obtain ⟨g2, hg2⟩ : ∃ k, k = w2.heap.size := ⟨_, rfl⟩
  obtain ⟨hr2, hbb⟩ := rat_new w2 _ _ _ _ _ W2 g2 hW2 hg2
  have HB4 := Lib.hid (HB3.out.trans (hbb.mono HB3.out.size))
  obtain ⟨c0, c1, c2, c3, c4⟩ := (HR2.out.keep hbb).cells
  clear hb2 HB2 HB3 hr2 hbb C2
  go_upto_region 3 with fail
  rw [← hW2, ← hg2]
  clear hW2 hg2
  go_wp2_with fail
  go_ret
  exact ⟨rfl, HB4.out⟩

end Go.Proofs.YtdhhiodnnnfioaaDoor.RuleL
