/-
  Packed by program.
-/
import Derived.StillTailTactics
import Derived.RegionTactic
import Derived.Lib.AtoiAll
import Derived.Lib.ItoaNum
import Derived.Lib.AtoiAllCases
import Derived.Test.YtpoinibckmbfcaaGreatDoorPk01
namespace Go.Proofs.YtpoinibckmbfcaaGreatDoor.Kit
open Go.RowKit
set_option linter.unusedVariables false
def row (k : IntKind) (n : Nat) (f : Nat → Nat) : Array Value := ((List.range n).map fun j => Value.int k (f j : Int)).toArray
theorem row_size (k : IntKind) (n : Nat) (f : Nat → Nat) : (row k n f).size = n := by simp [row]
theorem row_cell (k : IntKind) (n : Nat) (f : Nat → Nat) (j : Nat) (h : j < n) : (row k n f)[j]? = some (.int k (f j : Int)) := by simp [row, h]
theorem row_one (k : IntKind) (n : Nat) (f : Nat → Nat) : (row k n f).all (·.oneCell') = true := by simp [row, Value.oneCell']
theorem row_congr (k : IntKind) (n : Nat) (f g : Nat → Nat) (h : ∀ j, j < n → f j = g j) : row k n f = row k n g := by
 unfold row
 congr 1
 apply List.map_congr_left
 intro j hj
 rw [h j (List.mem_range.1 hj)]
def upd (f : Nat → Nat) (i v : Nat) : Nat → Nat := fun j => if j = i then v else f j
theorem upd_same (f : Nat → Nat) (i v : Nat) : upd f i v i = v := by simp [upd]
theorem upd_other (f : Nat → Nat) (i v j : Nat) (h : j ≠ i) : upd f i v j = f j := by simp [upd, h]
theorem row_set (k : IntKind) (n : Nat) (f : Nat → Nat) (i v : Nat) : (row k n f).setIfInBounds i (.int k (v : Int)) = row k n (upd f i v) := by
 apply Array.ext_getElem?
 intro j
 rw [Array.getElem?_setIfInBounds]
 by_cases hj : j < n
 · by_cases h : i = j
   · subst h
     rw [row_cell k n (upd f i v) i hj, upd_same]
     simp [row_size, hj]
   · rw [if_neg h, row_cell _ _ _ _ hj, row_cell _ _ _ _ hj, upd_other _ _ _ _ (fun e => h e.symm)]
 · rw [Array.getElem?_eq_none (xs := row k n (upd f i v)) (by rw [row_size]; omega)]
   split
   · rename_i h; subst h; simp [row_size, hj]
   · exact Array.getElem?_eq_none (by rw [row_size]; omega)
def Arr (w : World) (b : Nat) (k : IntKind) (n : Nat) (t : TypeId) (f : Nat → Nat) : Prop := w.heap[b]? = some (.cells (row k n f) t (0, 0))
theorem Arr.at_ {w : World} {b n : Nat} {k : IntKind} {t : TypeId} {f : Nat → Nat} (h : Arr w b k n t f) (j : Nat) (hj : j < n) : w.cell? ⟨b, j, none⟩ = some (.int k (f j : Int)) := by
 rw [cell_of_row w b j _ t _ h, row_cell _ _ _ _ hj]
theorem Arr.frz {w : World} {b n : Nat} {k : IntKind} {t : TypeId} {f : Nat → Nat} (h : Arr w b k n t f) (j : Nat) : w.frozen? ⟨b, j, none⟩ = false := frozen_of_row w b j _ t h
theorem Arr.set {w : World} {b n : Nat} {k : IntKind} {t : TypeId} {f : Nat → Nat} (h : Arr w b k n t f) (j v : Nat) : Arr (w.setCell ⟨b, j, none⟩ (.int k (v : Int))) b k n t (upd f j v) := by
 unfold Arr
 rw [heap_setCell_same w b j _ t _ h, row_set]
theorem Arr.other {w : World} {b n : Nat} {k : IntKind} {t : TypeId} {f : Nat → Nat} (h : Arr w b k n t f) (a : Addr) (v : Value) (hb : b ≠ a.block) : Arr (w.setCell a v) b k n t f := by
 unfold Arr
 rw [heap_setCell_other w a b v hb]
 exact h
theorem Arr.keep {w w' : World} {B b n : Nat} {k : IntKind} {t : TypeId} {f : Nat → Nat} (h : Arr w b k n t f) (hb : Below B w w') (hB : b < B) : Arr w' b k n t f := by
 unfold Arr
 rw [hb.block b hB]
 exact h
theorem Arr.lt {w : World} {b n : Nat} {k : IntKind} {t : TypeId} {f : Nat → Nat} (h : Arr w b k n t f) : b < w.heap.size := by
 rcases Nat.lt_or_ge b w.heap.size with h' | h'
 · exact h'
 · unfold Arr at h; rw [Array.getElem?_eq_none h'] at h; cases h
theorem Arr.congr {w : World} {b n : Nat} {k : IntKind} {t : TypeId} {f g : Nat → Nat} (h : Arr w b k n t f) (e : ∀ j, j < n → f j = g j) : Arr w b k n t g := by
 unfold Arr
 rw [← row_congr k n f g e]
 exact h
theorem Arr.drew {w : World} {b n : Nat} {k : IntKind} {t : TypeId} {f : Nat → Nat} (h : Arr w b k n t f) : Arr w.drew b k n t f := h
theorem Arr.drewN {w : World} {b n : Nat} {k : IntKind} {t : TypeId} {f : Nat → Nat} (h : Arr w b k n t f) (q : Nat) : Arr (w.drewN q) b k n t f := by
 unfold Arr
 have : (w.drewN q).heap = w.heap := by simp
 rw [this]; exact h
theorem Arr.setRow {w : World} {b n : Nat} {k : IntKind} {t : TypeId} {f : Nat → Nat} (h : Arr w b k n t f) (g : Nat → Nat) : Arr (w.setRow b (row k n g)) b k n t g :=
 setRow_heap w b _ _ t _ h
theorem Arr.setRow_ne {w : World} {b c n : Nat} {k : IntKind} {t : TypeId} {f : Nat → Nat} (h : Arr w b k n t f) (cs : Array Value) (hb : b ≠ c) : Arr (w.setRow c cs) b k n t f := by
 unfold Arr
 rw [setRow_other w c b cs hb]
 exact h
theorem Arr.new {w : World} {n : Nat} {k : IntKind} {t : TypeId} {f : Nat → Nat} : Arr (w.alloc (.cells (row k n f) t)) w.heap.size k n t f := heap_alloc_last w _
theorem Arr.new1 {w : World} {o : Obj} {n : Nat} {k : IntKind} {t : TypeId} {f : Nat → Nat} : Arr ((w.alloc o).alloc (.cells (row k n f) t)) (w.heap.size + 1) k n t f := by
 have := Arr.new (w := w.alloc o) (n := n) (k := k) (t := t) (f := f)
 rwa [show (w.alloc o).heap.size = w.heap.size + 1 by simp] at this
theorem Arr.new2 {w : World} {o o' : Obj} {n : Nat} {k : IntKind} {t : TypeId} {f : Nat → Nat} : Arr (((w.alloc o).alloc o').alloc (.cells (row k n f) t)) (w.heap.size + 1 + 1) k n t f := by
 have := Arr.new (w := (w.alloc o).alloc o') (n := n) (k := k) (t := t) (f := f)
 rwa [show ((w.alloc o).alloc o').heap.size = w.heap.size + 1 + 1 by simp] at this
theorem Arr.new3 {w : World} {o o' o'' : Obj} {n : Nat} {k : IntKind} {t : TypeId} {f : Nat → Nat} : Arr ((((w.alloc o).alloc o').alloc o'').alloc (.cells (row k n f) t)) (w.heap.size + 1 + 1 + 1) k n t f := by
 have := Arr.new (w := ((w.alloc o).alloc o').alloc o'') (n := n) (k := k) (t := t) (f := f)
 rwa [show (((w.alloc o).alloc o').alloc o'').heap.size = w.heap.size + 1 + 1 + 1 by simp] at this
theorem below1 (w : World) (o : Obj) : Below w.heap.size w (w.alloc o) := (Below.refl _ _).alloc (Nat.le_refl _) _
theorem below2 (w : World) (o o' : Obj) : Below w.heap.size w ((w.alloc o).alloc o') := (below1 w o).alloc (by simp) _
theorem below3 (w : World) (o o' o'' : Obj) : Below w.heap.size w (((w.alloc o).alloc o').alloc o'') := (below2 w o o').alloc (by simp; omega) _
theorem below4 (w : World) (o o' o'' p : Obj) : Below w.heap.size w ((((w.alloc o).alloc o').alloc o'').alloc p) := (below3 w o o' o'').alloc (by simp; omega) _
theorem Arr.al {w : World} {b n : Nat} {k : IntKind} {t : TypeId} {f : Nat → Nat} (h : Arr w b k n t f) (o : Obj) : Arr (w.alloc o) b k n t f := by
 unfold Arr
 rw [Below.heap_alloc w o b h.lt]
 exact h
theorem still_load_row {P : Program} {o : Oper} {a : Act} {w : World} {K : Act → Prop} (ty : TypeId) (x : Operand) (ho : o.op = .load ty x)
    (g : Nat) (hx : a.eval x = .pointer (some ⟨g, 0, none⟩)) (t : TypeId) (cs : Array Value) (fr : Nat × Nat) (d : TypeDesc) (hg : w.heap[g]? = some (.cells cs t fr))
    (hu : P.underlying ty = some d) (hd : (match d with | .struct _ | .array _ _ => true | _ => false) = true) (hi : (P.info? ty).map (·.size) = some cs.size)
    (h : K (a.put o.dst (.agg cs))) : o.still P a w K := by
  unfold Oper.still execOp
  simp only [ho, hx, Instr.loadAt, Instr.sureAddr, Sem.run_bind, Sem.run_pure, Result.andThen_ok, run_loadVar_row w g t ty cs fr d hg hu hd hi]
  exact ⟨rfl, h⟩
theorem wpList_load_arr {P : Program} {ops : Array Oper} {rest : List Oper} {o : Oper} {a : Act} {w : World} {Q : Exit → Act → World → Prop} (hgd : o.guard = none) (ty : TypeId) (x : Operand) (ho : o.op = .load ty x)
    (g : Nat) (hx : a.eval x = .pointer (some ⟨g, 0, none⟩)) (k : IntKind) (n : Nat) (t : TypeId) (f : Nat → Nat) (hA : Arr w g k n t f) (d : TypeDesc)
    (hu : P.underlying ty = some d) (hd : (match d with | .struct _ | .array _ _ => true | _ => false) = true) (hi : Hid ((P.info? ty).map (·.size) = some n))
    (h : wpList P ops Q rest (a.put o.dst (.agg (row k n f))) w) : wpList P ops Q (o :: rest) a w :=
  wpList_load_row hgd ty x ho g hx t _ (0, 0) d hA hu hd (by rw [hi.out, row_size]) h
theorem wpList_store_arr {P : Program} {ops : Array Oper} {rest : List Oper} {o : Oper} {a : Act} {w : World} {Q : Exit → Act → World → Prop} (hgd : o.guard = none) (ty : TypeId) (x y : Operand) (ho : o.op = .store ty x y)
    (g : Nat) (k : IntKind) (n : Nat) (f : Nat → Nat) (hx : a.eval x = .pointer (some ⟨g, 0, none⟩)) (hy : a.eval y = .agg (row k n f))
    (t : TypeId) (f0 : Nat → Nat) (hA : Arr w g k n t f0) (hi : Hid ((P.info? ty).map (·.size) = some n))
    (h : wpList P ops Q rest (a.put o.dst undef) (w.setRow g (row k n f))) : wpList P ops Q (o :: rest) a w :=
  wpList_store_row hgd ty x y ho g _ hx hy t _ hA (by rw [hi.out, row_size]) (by rw [row_size, row_size]) (row_one _ _ _) h
theorem still_load_arr {P : Program} {o : Oper} {a : Act} {w : World} {K : Act → Prop} (ty : TypeId) (x : Operand) (ho : o.op = .load ty x)
    (g : Nat) (hx : a.eval x = .pointer (some ⟨g, 0, none⟩)) (k : IntKind) (n : Nat) (t : TypeId) (f : Nat → Nat) (hA : Arr w g k n t f) (d : TypeDesc)
    (hu : P.underlying ty = some d) (hd : (match d with | .struct _ | .array _ _ => true | _ => false) = true) (hi : Hid ((P.info? ty).map (·.size) = some n))
    (h : K (a.put o.dst (.agg (row k n f)))) : o.still P a w K :=
  still_load_row ty x ho g hx t _ (0, 0) d hA hu hd (by rw [hi.out, row_size]) h
theorem results_arr {P : Program} {fn : Func} {p : Tmp} {ty : TypeId} (h : fn.results = #[.cell p ty]) (tmps : Array Value) (w : World) (g : Nat) (t : TypeId) (k : IntKind) (n : Nat) (f : Nat → Nat) (d : TypeDesc)
    (hp : tmps.getD p undef = .pointer (some ⟨g, 0, none⟩)) (hA : Arr w g k n t f)
    (hu : P.underlying ty = some d) (hd : (match d with | .struct _ | .array _ _ => true | _ => false) = true) (hi : Hid ((P.info? ty).map (·.size) = some n)) :
    (results fn tmps).run P w = .ok (.agg (row k n f)) w :=
  results_cell_row h tmps w g t _ (0, 0) d hp hA hu hd (by rw [hi.out, row_size])
def Tb (w : World) (g : Nat) (k : IntKind) (n : Nat) (f : Nat → Nat) : Prop := ∃ t fr, w.heap[g]? = some (.cells (row k n f) t fr)
theorem Tb.lt {w : World} {g n : Nat} {k : IntKind} {f : Nat → Nat} (h : Tb w g k n f) : g < w.heap.size := by
 obtain ⟨t, fr, h⟩ := h
 rcases Nat.lt_or_ge g w.heap.size with h' | h'
 · exact h'
 · rw [Array.getElem?_eq_none h'] at h; cases h
theorem Tb.keep {w w' : World} {g n : Nat} {k : IntKind} {f : Nat → Nat} (h : Tb w g k n f) (hb : Below w.heap.size w w') : Tb w' g k n f := by
 have hl := h.lt
 obtain ⟨t, fr, h⟩ := h
 exact ⟨t, fr, by rw [hb.block g hl]; exact h⟩
theorem Tb.at_ {w : World} {g n : Nat} {k : IntKind} {f : Nat → Nat} (h : Tb w g k n f) (j : Nat) (hj : j < n) : w.cell? ⟨g, j, none⟩ = some (.int k (f j : Int)) := by
 obtain ⟨t, fr, h⟩ := h
 rw [cell_of_row w g j _ t _ h, row_cell _ _ _ _ hj]
theorem Tb.al {w : World} {g n : Nat} {k : IntKind} {f : Nat → Nat} (h : Tb w g k n f) (o : Obj) : Tb (w.alloc o) g k n f := h.keep (below1 w o)
theorem wpList_load_tb {P : Program} {ops : Array Oper} {rest : List Oper} {o : Oper} {a : Act} {w : World} {Q : Exit → Act → World → Prop} (hgd : o.guard = none) (ty : TypeId) (x : Operand) (ho : o.op = .load ty x)
    (g : Nat) (hx : a.eval x = .pointer (some ⟨g, 0, none⟩)) (k : IntKind) (n : Nat) (f : Nat → Nat) (hA : Tb w g k n f) (d : TypeDesc)
    (hu : P.underlying ty = some d) (hd : (match d with | .struct _ | .array _ _ => true | _ => false) = true) (hi : Hid ((P.info? ty).map (·.size) = some n))
    (h : wpList P ops Q rest (a.put o.dst (.agg (row k n f))) w) : wpList P ops Q (o :: rest) a w := by
  obtain ⟨t, fr, hA⟩ := hA
  exact wpList_load_row hgd ty x ho g hx t _ fr d hA hu hd (by rw [hi.out, row_size]) h
theorem step_load_arr {P : Program} {ops : Array Oper} {o : Oper} {a : Act} {w : World} {K : Act → World → Prop} {Q : Exit → Act → World → Prop} {E : Prop} (hgd : o.guard = none) (ty : TypeId) (x : Operand) (ho : o.op = .load ty x)
    (g : Nat) (hx : a.eval x = .pointer (some ⟨g, 0, none⟩)) (k : IntKind) (n : Nat) (t : TypeId) (f : Nat → Nat) (hA : Arr w g k n t f) (d : TypeDesc)
    (hu : P.underlying ty = some d) (hd : (match d with | .struct _ | .array _ _ => true | _ => false) = true) (hi : Hid ((P.info? ty).map (·.size) = some n))
    (h : K (a.put o.dst (.agg (row k n f))) w) : if Region.wanted o (yielded ops a.tmps) = true then Oper.wp P o a w K Q else E := by
  rw [if_pos (by simp [Region.wanted, hgd])]
  exact wp_load_row ty x ho g hx t _ (0, 0) d hA hu hd (by rw [hi.out, row_size]) h
theorem step_store_arr {P : Program} {ops : Array Oper} {o : Oper} {a : Act} {w : World} {K : Act → World → Prop} {Q : Exit → Act → World → Prop} {E : Prop} (hgd : o.guard = none) (hdst : o.dst = none) (ty : TypeId) (x y : Operand) (ho : o.op = .store ty x y)
    (g : Nat) (k : IntKind) (n : Nat) (f : Nat → Nat) (hx : a.eval x = .pointer (some ⟨g, 0, none⟩)) (hy : a.eval y = .agg (row k n f))
    (t : TypeId) (f0 : Nat → Nat) (hA : Arr w g k n t f0) (hi : Hid ((P.info? ty).map (·.size) = some n))
    (h : K a (w.setRow g (row k n f))) : if Region.wanted o (yielded ops a.tmps) = true then Oper.wp P o a w K Q else E := by
  rw [if_pos (by simp [Region.wanted, hgd])]
  exact wp_store_row ty x y ho g _ hx hy t _ hA (by rw [hi.out, row_size]) (by rw [row_size, row_size]) (row_one _ _ _) (by rw [hdst]; exact h)
theorem wp_frame {P : Program} {c : Code} {Q : Exit → Act → World → Prop} {a : Act} {w : World} (R : World → Prop) (h : ∃ A, c.wp P (fun ex a' w' => ex = .normal ∧ a' = A ∧ R w') a w ∧ ∀ w', R w' → Q .normal A w') : c.wp P Q a w := by
 obtain ⟨A, h, k⟩ := h
 exact Code.wp_mono (by rintro ex a' w' ⟨rfl, rfl, hR⟩; exact k w' hR) h
theorem run_index_row {P : Program} (t e : TypeId) (n : Nat) (k : IntKind) (f : Nat → Nat) (i : Nat) (hu : P.underlying t = some (.array n e)) (hz : ∀ w, (sizeOf e).run P w = .ok 1 w) (ha : ∀ w, (isAgg e).run P w = .ok false w) (hi : i < n) (w : World) :
  (Instr.index t (.agg (row k n f)) (.int .i64 (i : Int))).run P w = .ok (.int k (f i : Int)) w := by
 have h1 : (0 : Int) ≤ (i : Int) ∧ (i : Int) < (n : Int) := by omega
 simp [Instr.index, run_underlying hu, asIntOf, part, hz, ha, row_cell, hi, h1, go_sem]
end Go.Proofs.YtpoinibckmbfcaaGreatDoor.Kit
namespace Go.Proofs.YtpoinibckmbfcaaGreatDoor.ShaMath
open Go
set_option linter.unusedVariables false
theorem byte_left (l r : List UInt8) (j : Nat) (h : j < l.length) : byte (l ++ r) j = byte l j := by
 unfold byte
 rw [List.getD_eq_getElem?_getD, List.getD_eq_getElem?_getD, List.getElem?_append_left h]
theorem byte_right (l r : List UInt8) (j : Nat) (h : l.length ≤ j) : byte (l ++ r) j = byte r (j - l.length) := by
 unfold byte
 rw [List.getD_eq_getElem?_getD, List.getD_eq_getElem?_getD, List.getElem?_append_right h]
theorem byte_over (l : List UInt8) (j : Nat) (h : l.length ≤ j) : byte l j = 0 := by
 unfold byte
 rw [List.getD_eq_getElem?_getD, List.getElem?_eq_none h]
 rfl
theorem byte_zeros (n j : Nat) : byte (List.replicate n 0) j = 0 := by
 unfold byte
 rw [List.getD_eq_getElem?_getD, List.getElem?_replicate]
 split <;> rfl
theorem byte_be8 (n i : Nat) (h : i < 8) : byte (be8 n) i = n / 2 ^ (8 * (7 - i)) % 256 := by
 unfold byte be8
 rw [List.getD_eq_getElem?_getD, List.getElem?_map, List.getElem?_range h]
 simp
def fin (s : W8) (rest : List UInt8) (all : Nat) : W8 :=
 if rest.length < 56 then blk s (rest ++ [128] ++ List.replicate (55 - rest.length) 0 ++ be8 (8 * all))
 else blk (blk s (rest ++ [128])) (List.replicate 56 0 ++ be8 (8 * all))
theorem fin_short {s : W8} {rest : List UInt8} {all : Nat} (h : rest.length < 56) : fin s rest all = blk s (rest ++ [128] ++ List.replicate (55 - rest.length) 0 ++ be8 (8 * all)) := if_pos h
theorem fin_long {s : W8} {rest : List UInt8} {all : Nat} (h : ¬ rest.length < 56) : fin s rest all = blk (blk s (rest ++ [128])) (List.replicate 56 0 ++ be8 (8 * all)) := if_neg h
theorem after_succ (l : List UInt8) (k : Nat) : after l (k + 1) = blk (after l k) (l.drop (64 * k)) := by rw [after]
theorem padded_drop (l : List UInt8) (k : Nat) (h : 64 * k ≤ l.length) : (padded l).drop (64 * k) = l.drop (64 * k) ++ [128] ++ List.replicate (gap l.length) 0 ++ be8 (8 * l.length) := by
 unfold padded
 rw [List.append_assoc, List.append_assoc, List.drop_append_of_le_length h, List.append_assoc, List.append_assoc]
theorem after_whole (l : List UInt8) (k : Nat) (h : 64 * k + 64 ≤ l.length) : blk (after (padded l) k) (l.drop (64 * k)) = after (padded l) (k + 1) := by
 rw [after_succ, padded_drop l k (by omega)]
 apply blk_same
 intro j hj
 rw [List.append_assoc, List.append_assoc, byte_left _ _ _ (by rw [List.length_drop]; omega)]
theorem sum_fin (l : List UInt8) (k : Nat) (h : 64 * k ≤ l.length) (h' : l.length < 64 * k + 64) : fin (after (padded l) k) (l.drop (64 * k)) l.length = sumW l := by
 have hd : (l.drop (64 * k)).length = l.length - 64 * k := List.length_drop
 unfold sumW
 rw [padded_length]
 by_cases hs : l.length - 64 * k < 56
 · have hg : gap l.length = 55 - (l.length - 64 * k) := by unfold gap; omega
   rw [fin_short (by rw [hd]; exact hs), show (l.length + 9 + gap l.length) / 64 = k + 1 by omega, after_succ, padded_drop l k h, hg, hd]
 · have hg : gap l.length = 119 - (l.length - 64 * k) := by unfold gap; omega
   rw [fin_long (by rw [hd]; exact hs), show (l.length + 9 + gap l.length) / 64 = k + 1 + 1 by omega, after_succ, after_succ]
   have e1 : blk (after (padded l) k) (l.drop (64 * k) ++ [128]) = blk (after (padded l) k) ((padded l).drop (64 * k)) := by
    rw [padded_drop l k h]
    apply blk_same
    intro j hj
    rw [List.append_assoc (l.drop (64 * k) ++ [128])]
    by_cases hj2 : j < (l.drop (64 * k) ++ [128]).length
    · rw [byte_left _ _ _ hj2]
    · rw [byte_over _ _ (by omega), byte_right _ _ _ (by omega), byte_left _ _ _ (by rw [List.length_replicate, List.length_append, hd, hg]; simp; omega), byte_zeros]
   rw [e1]
   congr 1
   have e2 : (padded l).drop (64 * (k + 1)) = ((padded l).drop (64 * k)).drop 64 := by rw [List.drop_drop]; congr 1
   rw [e2, padded_drop l k h]
   have e3 : l.drop (64 * k) ++ [128] ++ List.replicate (gap l.length) 0 = (l.drop (64 * k) ++ [128] ++ List.replicate (63 - (l.length - 64 * k)) 0) ++ List.replicate 56 0 := by
    rw [List.append_assoc _ (List.replicate (63 - (l.length - 64 * k)) 0), List.replicate_append_replicate]
    congr 2
    omega
   rw [e3, List.append_assoc, List.drop_append_of_le_length (by simp [hd]; omega), List.drop_of_length_le (by simp [hd]; omega)]
   rfl
def endAt (f : Nat → Nat) (all : Nat) (j : Nat) : Nat := if 56 ≤ j then 8 * all / 2 ^ (8 * (63 - j)) % 256 else f j
theorem end_short (rest : List UInt8) (all j : Nat) (h : rest.length < 56) (hj : j < 64) : endAt (byte (rest ++ [128])) all j = byte (rest ++ [128] ++ List.replicate (55 - rest.length) 0 ++ be8 (8 * all)) j := by
 unfold endAt
 by_cases h56 : 56 ≤ j
 · rw [if_pos h56, byte_right _ _ _ (by simp; omega), byte_be8 _ _ (by simp; omega)]
   congr 3
   simp
   omega
 · rw [if_neg h56, byte_left (rest ++ [128] ++ List.replicate (55 - rest.length) 0) (be8 (8 * all)) j (by simp; omega)]
   by_cases hl : j < rest.length + 1
   · rw [byte_left (rest ++ [128]) (List.replicate (55 - rest.length) 0) j (by simp; omega)]
   · rw [byte_right (rest ++ [128]) (List.replicate (55 - rest.length) 0) j (by simp; omega), byte_zeros, byte_over _ _ (by simp; omega)]
theorem end_long (all j : Nat) (hj : j < 64) : endAt (fun _ => 0) all j = byte (List.replicate 56 0 ++ be8 (8 * all)) j := by
 unfold endAt
 by_cases h56 : 56 ≤ j
 · rw [if_pos h56, byte_right _ _ _ (by simp; omega), byte_be8 _ _ (by simp; omega)]
   congr 3
   simp
   omega
 · rw [if_neg h56, byte_left (List.replicate 56 0) (be8 (8 * all)) j (by simp; omega), byte_zeros]
theorem snoc_at (rest : List UInt8) (j : Nat) : (if j = rest.length then 128 else byte rest j) = byte (rest ++ [128]) j := by
 by_cases h : j < rest.length
 · rw [if_neg (by omega), byte_left _ _ _ h]
 · by_cases e : j = rest.length
   · subst e
     rw [if_pos rfl, byte_right _ _ _ (Nat.le_refl _), Nat.sub_self]
     rfl
   · rw [if_neg e, byte_over _ _ (by omega), byte_over _ _ (by simp; omega)]
end Go.Proofs.YtpoinibckmbfcaaGreatDoor.ShaMath
namespace Go.Proofs.YtpoinibckmbfcaaGreatDoor.HexMath
open Go
set_option linter.unusedVariables false
def hexD (n : Nat) : UInt8 := if n < 10 then UInt8.ofNat (48 + n) else UInt8.ofNat (87 + n)
def hexL : List UInt8 → List UInt8
  | [] => []
  | c :: r => hexD (c.toNat / 16) :: hexD (c.toNat % 16) :: hexL r
def digV (c : UInt8) : Option Nat := if 48 ≤ c.toNat ∧ c.toNat ≤ 57 then some (c.toNat - 48) else if 97 ≤ c.toNat ∧ c.toNat ≤ 102 then some (c.toNat - 87) else none
def unhexL : List UInt8 → Option (List UInt8)
  | [] => some []
  | [_] => none
  | a :: b :: r => match digV a, digV b, unhexL r with
    | some x, some y, some out => some (UInt8.ofNat (16 * x + y) :: out)
    | _, _, _ => none
theorem unhexL_cons (a b : UInt8) (r : List UInt8) : unhexL (a :: b :: r) = match digV a, digV b, unhexL r with
    | some x, some y, some out => some (UInt8.ofNat (16 * x + y) :: out)
    | _, _, _ => none := by rw [unhexL]
theorem hexL_length : ∀ l : List UInt8, (hexL l).length = 2 * l.length
  | [] => rfl
  | c :: r => by simp only [hexL, List.length_cons, hexL_length r]; omega
theorem hexL_append : ∀ a b : List UInt8, hexL (a ++ b) = hexL a ++ hexL b
  | [], b => rfl
  | c :: r, b => by simp only [hexL, List.cons_append, hexL_append r b]
theorem hexL_snoc (l : List UInt8) (c : UInt8) : hexL (l ++ [c]) = hexL l ++ [hexD (c.toNat / 16), hexD (c.toNat % 16)] := by rw [hexL_append]; rfl
theorem digV_lt {c : UInt8} {x : Nat} (h : digV c = some x) : x < 16 := by
 unfold digV at h
 split at h
 · injection h; omega
 · split at h
   · injection h; omega
   · cases h
theorem digV_hexD : ∀ n, n < 16 → digV (hexD n) = some n := by decide
theorem hexD_digV {c : UInt8} {x : Nat} (h : digV c = some x) : hexD x = c := by
 have key : ∀ n : Nat, n < 256 → ∀ y, digV (UInt8.ofNat n) = some y → hexD y = UInt8.ofNat n := by
  intro n hn y hy
  have hy16 := digV_lt hy
  have := (show ∀ n, n < 256 → ∀ y, y < 16 → digV (UInt8.ofNat n) = some y → hexD y = UInt8.ofNat n by decide +kernel) n hn y hy16 hy
  exact this
 have := key c.toNat (UInt8.toNat_lt c) x (by rw [UInt8.ofNat_toNat]; exact h)
 rwa [UInt8.ofNat_toNat] at this
theorem byte_of (c : UInt8) : UInt8.ofNat (16 * (c.toNat / 16) + c.toNat % 16) = c := by
 rw [Nat.div_add_mod, UInt8.ofNat_toNat]
theorem pair_div {x y : Nat} (hx : x < 16) (hy : y < 16) : (UInt8.ofNat (16 * x + y)).toNat / 16 = x ∧ (UInt8.ofNat (16 * x + y)).toNat % 16 = y := by
 have h : (UInt8.ofNat (16 * x + y)).toNat = (16 * x + y) % 256 := UInt8.toNat_ofNat'
 rw [h]
 omega
theorem unhex_hex : ∀ l : List UInt8, unhexL (hexL l) = some l
  | [] => rfl
  | c :: r => by
    have h0 := UInt8.toNat_lt c
    simp only [hexL, unhexL, digV_hexD _ (show c.toNat / 16 < 16 by have : c.toNat < 256 := h0; omega), digV_hexD _ (show c.toNat % 16 < 16 by omega), unhex_hex r, byte_of]
theorem hex_unhex : ∀ (s out : List UInt8), unhexL s = some out → hexL out = s
  | [], out, h => by injection h with h; subst h; rfl
  | [_], out, h => by cases h
  | a :: b :: r, out, h => by
    unfold unhexL at h
    split at h
    · rename_i x y o hx hy ho
      injection h with h
      subst h
      obtain ⟨e1, e2⟩ := pair_div (digV_lt hx) (digV_lt hy)
      rw [hexL, e1, e2, hexD_digV hx, hexD_digV hy, hex_unhex r o ho]
    · cases h
theorem unhex_odd : ∀ s : List UInt8, s.length % 2 = 1 → unhexL s = none
  | [], h => by simp at h
  | [_], _ => rfl
  | a :: b :: r, h => by
    have := unhex_odd r (by simp at h; omega)
    unfold unhexL
    rw [this]
    split <;> simp_all
theorem unhex_append : ∀ (a b x : List UInt8), unhexL a = some x → unhexL (a ++ b) = (unhexL b).map (x ++ ·)
  | [], b, x, h => by injection h with h; subst h; simp
  | [_], b, x, h => by cases h
  | p :: q :: r, b, x, h => by
    unfold unhexL at h
    split at h
    · rename_i u v o hu hv ho
      injection h with h
      subst h
      show unhexL (p :: q :: (r ++ b)) = _
      rw [unhexL_cons, hu, hv, unhex_append r b o ho]
      cases unhexL b <;> rfl
    · cases h
theorem unhex_pair (a b : UInt8) (x y : Nat) (ha : digV a = some x) (hb : digV b = some y) : unhexL [a, b] = some [UInt8.ofNat (16 * x + y)] := by
 unfold unhexL
 rw [ha, hb]
 rfl
theorem unhex_bad (a b : UInt8) (r : List UInt8) (h : digV a = none ∨ digV b = none) : unhexL (a :: b :: r) = none := by
 rw [unhexL_cons]
 rcases h with h | h
 · rw [h]
 · rw [h]; split <;> simp_all
theorem take_two (s : List UInt8) (k : Nat) (h : k + 1 < s.length) : s.take (k + 2) = s.take k ++ [s[k], s[k + 1]] := by
 rw [List.take_succ_eq_append_getElem (by omega), List.take_succ_eq_append_getElem (by omega), List.append_assoc]
 rfl
theorem drop_two (s : List UInt8) (k : Nat) (h : k + 1 < s.length) : s.drop k = s[k] :: s[k + 1] :: s.drop (k + 2) := by
 rw [List.drop_eq_getElem_cons (by omega), List.drop_eq_getElem_cons (by omega)]
theorem unhex_next (s out : List UInt8) (k x y : Nat) (hk : k + 1 < s.length) (h : unhexL (s.take k) = some out) (hx : digV s[k] = some x) (hy : digV s[k + 1] = some y) : unhexL (s.take (k + 2)) = some (out ++ [UInt8.ofNat (16 * x + y)]) := by
 rw [take_two s k hk, unhex_append _ _ _ h, unhex_pair _ _ _ _ hx hy]
 rfl
theorem unhex_stop (s out : List UInt8) (k : Nat) (hk : k + 1 < s.length) (h : unhexL (s.take k) = some out) (hb : digV s[k] = none ∨ digV s[k + 1] = none) : unhexL s = none := by
 have e : s = s.take k ++ s.drop k := (List.take_append_drop k s).symm
 rw [e, unhex_append _ _ _ h, drop_two s k hk, unhex_bad _ _ _ hb]
 rfl
end Go.Proofs.YtpoinibckmbfcaaGreatDoor.HexMath
namespace Go.Proofs.YtpoinibckmbfcaaGreatDoor.NumMath
open Go.Lib
def isDig (c : UInt8) : Prop := 48 ≤ c.toNat ∧ c.toNat ≤ 57
theorem dig_toNat {d : Nat} (h : d < 10) : (UInt8.ofNat (48 + d)).toNat = 48 + d := by
 rw [UInt8.toNat_ofNat']; omega
theorem parseUint10_append : ∀ (l r : List UInt8) (acc a : Nat), parseUint10 acc l = .ok a → parseUint10 acc (l ++ r) = parseUint10 a r
  | [], r, acc, a, h => by
    simp only [parseUint10] at h
    injection h with h
    subst h
    rfl
  | c :: l, r, acc, a, h => by
    simp only [parseUint10, List.cons_append] at h ⊢
    split at h
    · rename_i hd
      rw [if_pos hd]
      split at h
      · cases h
      · rename_i h1
        rw [if_neg h1]
        split at h
        · cases h
        · rename_i h2
          rw [if_neg h2]
          exact parseUint10_append l r _ a h
    · cases h
theorem parseUint10_one (acc d : Nat) (hd : d < 10) (h : acc * 10 + d < 18446744073709551616) : parseUint10 acc [UInt8.ofNat (48 + d)] = .ok (acc * 10 + d) := by
 simp only [parseUint10, dig_toNat hd]
 rw [if_pos (by omega), if_neg (by omega), if_neg (by omega)]
 congr 2
 omega
theorem parse_decDigits (u : Nat) (h : u < 18446744073709551616) : parseUint10 0 (decDigits u) = .ok u := by
 induction u using Nat.strongRecOn with
 | _ u ih =>
   by_cases hu : u < 10
   · rw [decDigits_one hu, parseUint10_one 0 u hu (by omega)]
     simp
   · rw [decDigits, dif_neg hu, parseUint10_append _ _ _ _ (ih (u / 10) (by omega) (by omega)), parseUint10_one _ _ (by omega) (by omega)]
     congr 1
     omega
theorem decDigits_dig (u : Nat) : ∀ c ∈ decDigits u, isDig c := by
 induction u using Nat.strongRecOn with
 | _ u ih =>
   intro c hc
   by_cases hu : u < 10
   · rw [decDigits_one hu] at hc
     rw [List.mem_singleton.1 hc]
     unfold isDig
     rw [dig_toNat hu]
     omega
   · rw [decDigits, dif_neg hu] at hc
     rcases List.mem_append.1 hc with hc | hc
     · exact ih (u / 10) (by omega) c hc
     · rw [List.mem_singleton.1 hc]
       unfold isDig
       rw [dig_toNat (by omega)]
       omega
theorem decDigits_ne (u : Nat) : decDigits u ≠ [] := by
 intro h
 have := decDigits_length u
 have := nDigits_pos u
 rw [h] at *
 simp at *
 omega
theorem atoi_itoa (n : Int) (h0 : -9223372036854775808 ≤ n) (h1 : n ≤ 9223372036854775807) : atoiAll (itoa n) = .ok n := by
 unfold itoa
 by_cases hn : n < 0
 · rw [if_pos hn]
   simp only [atoiAll]
   have e45 : (45 : UInt8).toNat = 45 := rfl
   rw [e45, if_pos (Or.inr rfl)]
   unfold parseMag
   rw [if_neg (decDigits_ne _), parse_decDigits _ (by omega)]
   simp only
   rw [if_neg (by simp), if_neg (by omega)]
   congr 1
   simp
   omega
 · rw [if_neg hn]
   rcases hd : decDigits n.toNat with _ | ⟨c, r⟩
   · exact absurd hd (decDigits_ne _)
   · have hc : isDig c := decDigits_dig n.toNat c (by rw [hd]; exact List.mem_cons_self)
     unfold isDig at hc
     simp only [atoiAll]
     rw [if_neg (by omega)]
     rw [← hd]
     unfold parseMag
     rw [if_neg (decDigits_ne _), parse_decDigits _ (by omega)]
     simp only
     rw [if_neg (by omega), if_neg (by omega)]
     congr 1
     rw [if_neg (by omega)]
     omega
def parse (l : List UInt8) : Option Int :=
 match atoiAll l with
 | .ok n => if itoa n = l then some n else none
 | _ => none
theorem parse_itoa (n : Int) (h0 : -9223372036854775808 ≤ n) (h1 : n ≤ 9223372036854775807) : parse (itoa n) = some n := by
 unfold parse
 rw [atoi_itoa n h0 h1]
 simp
theorem parse_some {l : List UInt8} {n : Int} (h : parse l = some n) : itoa n = l ∧ -9223372036854775808 ≤ n ∧ n ≤ 9223372036854775807 := by
 unfold parse at h
 split at h
 · rename_i m hm
   split at h
   · rename_i e
     injection h with h
     subst h
     exact ⟨e, atoiAll_bounds hm⟩
   · cases h
 · cases h
theorem itoa_mem (n : Int) : ∀ c ∈ itoa n, c = 45 ∨ isDig c := by
 intro c hc
 unfold itoa at hc
 split at hc
 · rcases List.mem_cons.1 hc with h | h
   · exact .inl h
   · exact .inr (decDigits_dig _ c h)
 · exact .inr (decDigits_dig _ c hc)
theorem itoa_ne (n : Int) : itoa n ≠ [] := by
 unfold itoa
 split
 · simp
 · exact decDigits_ne _
theorem nDigits_le (u : Nat) (h : u < 10000000000000000000) : nDigits u ≤ 19 := by
 rcases Nat.lt_or_ge 19 (nDigits u) with h19 | h19
 · have : ∀ k u : Nat, k < nDigits u → 10 ^ k ≤ u ∨ k = 0 := by
    intro k
    induction k with
    | zero => intro u _; exact .inr rfl
    | succ k ih =>
      intro u hu
      left
      by_cases h10 : u < 10
      · rw [nDigits_small h10] at hu; omega
      · rw [nDigits_big h10] at hu
        rw [Nat.pow_succ]
        rcases ih (u / 10) (by omega) with h | h
        · omega
        · subst h; simp; omega
   rcases this 19 u h19 with h' | h'
   · have e : (10 : Nat) ^ 19 = 10000000000000000000 := by decide
     omega
   · omega
 · exact h19
theorem itoa_len (n : Int) (h0 : -9223372036854775808 ≤ n) (h1 : n ≤ 9223372036854775807) : (itoa n).length ≤ 20 := by
 unfold itoa
 split
 · rw [List.length_cons, decDigits_length]
   have := nDigits_le n.natAbs (by omega)
   omega
 · rw [decDigits_length]
   have := nDigits_le n.toNat (by omega)
   omega
theorem itoa_len_pos (n : Int) : 1 ≤ (itoa n).length := List.length_pos_iff.2 (itoa_ne n)
theorem itoa_head_neg (n : Int) : (itoa n).head? = some 45 ↔ n < 0 := by
 constructor
 · intro h
   by_cases hn : n < 0
   · exact hn
   · exfalso
     unfold itoa at h
     rw [if_neg hn] at h
     have hm := decDigits_dig n.toNat 45 (List.mem_of_mem_head? h)
     exact absurd hm.1 (by decide)
 · intro h
   unfold itoa
   rw [if_pos h]
   rfl
end Go.Proofs.YtpoinibckmbfcaaGreatDoor.NumMath
