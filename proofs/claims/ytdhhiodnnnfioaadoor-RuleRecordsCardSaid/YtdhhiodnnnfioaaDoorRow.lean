/-
  Small words on arrays that lie in memory as so many whole numbers of one kind, told by a function of the place: reading a place, writing one, taking the whole. Nothing here is of this program but the import.
-/
import Derived.Test.YtdhhiodnnnfioaaDoorKit
import Derived.Laws.CopyOwn
import Derived.Laws.Tables
import Derived.Laws.Rows
import Derived.Deep.WholeRow
import Derived.StillTailTactics
import Derived.RegionTactic
namespace Go.Proofs.YtdhhiodnnnfioaaDoor.Kit
open Go.RowKit
set_option linter.unusedVariables false

/-- n numbers of kind k. -/
def row (k : IntKind) (n : Nat) (f : Nat → Nat) : Array Value := ((List.range n).map fun j => Value.int k (f j : Int)).toArray
theorem row_size (k : IntKind) (n : Nat) (f : Nat → Nat) : (row k n f).size = n := by simp [row]
theorem row_cell (k : IntKind) (n : Nat) (f : Nat → Nat) (j : Nat) (h : j < n) : (row k n f)[j]? = some (.int k (f j : Int)) := by simp [row, h]
theorem row_one (k : IntKind) (n : Nat) (f : Nat → Nat) : (row k n f).all (·.oneCell') = true := by simp [row, Value.oneCell']
theorem row_congr (k : IntKind) (n : Nat) (f g : Nat → Nat) (h : ∀ j, j < n → f j = g j) : row k n f = row k n g := by
  unfold row
  congr 1
  apply List.map_congr_left
  intro j hj
  rw [h j (List.mem_range.1 hj)]
/-- A function that is something else at one place. -/
def upd (f : Nat → Nat) (i v : Nat) : Nat → Nat := fun j => if j = i then v else f j
theorem upd_same (f : Nat → Nat) (i v : Nat) : upd f i v i = v := by simp [upd]
theorem upd_other (f : Nat → Nat) (i v j : Nat) (h : j ≠ i) : upd f i v j = f j := by simp [upd, h]
theorem row_set (k : IntKind) (n : Nat) (f : Nat → Nat) (i v : Nat) : (row k n f).setIfInBounds i (.int k (v : Int)) = row k n (upd f i v) := by
  apply Array.ext_getElem?
  intro j
  rw [Array.getElem?_setIfInBounds]
  by_cases hj : j < n
  · by_cases h : i = j
    · subst h
      rw [row_cell k n (upd f i v) i hj, upd_same]
      simp [row_size, hj]
    · rw [if_neg h, row_cell _ _ _ _ hj, row_cell _ _ _ _ hj, upd_other _ _ _ _ (fun e => h e.symm)]
  · rw [Array.getElem?_eq_none (xs := row k n (upd f i v)) (by rw [row_size]; omega)]
    split
    · rename_i h; subst h; simp [row_size, hj]
    · exact Array.getElem?_eq_none (by rw [row_size]; omega)

/-- Block b holds such numbers. -/
def Arr (w : World) (b : Nat) (k : IntKind) (n : Nat) (t : TypeId) (f : Nat → Nat) : Prop := w.heap[b]? = some (.cells (row k n f) t (0, 0))
theorem Arr.at_ {w : World} {b n : Nat} {k : IntKind} {t : TypeId} {f : Nat → Nat} (h : Arr w b k n t f) (j : Nat) (hj : j < n) : w.cell? ⟨b, j, none⟩ = some (.int k (f j : Int)) := by
  rw [cell_of_row w b j _ t _ h, row_cell _ _ _ _ hj]
theorem Arr.frz {w : World} {b n : Nat} {k : IntKind} {t : TypeId} {f : Nat → Nat} (h : Arr w b k n t f) (j : Nat) : w.frozen? ⟨b, j, none⟩ = false := frozen_of_row w b j _ t h
theorem Arr.set {w : World} {b n : Nat} {k : IntKind} {t : TypeId} {f : Nat → Nat} (h : Arr w b k n t f) (j v : Nat) : Arr (w.setCell ⟨b, j, none⟩ (.int k (v : Int))) b k n t (upd f j v) := by
  unfold Arr
  rw [heap_setCell_same w b j _ t _ h, row_set]
theorem Arr.other {w : World} {b n : Nat} {k : IntKind} {t : TypeId} {f : Nat → Nat} (h : Arr w b k n t f) (a : Addr) (v : Value) (hb : b ≠ a.block) : Arr (w.setCell a v) b k n t f := by
  unfold Arr
  rw [heap_setCell_other w a b v hb]
  exact h
theorem Arr.keep {w w' : World} {B b n : Nat} {k : IntKind} {t : TypeId} {f : Nat → Nat} (h : Arr w b k n t f) (hb : Below B w w') (hB : b < B) : Arr w' b k n t f := by
  unfold Arr
  rw [hb.block b hB]
  exact h
theorem Arr.lt {w : World} {b n : Nat} {k : IntKind} {t : TypeId} {f : Nat → Nat} (h : Arr w b k n t f) : b < w.heap.size := by
  rcases Nat.lt_or_ge b w.heap.size with h' | h'
  · exact h'
  · unfold Arr at h; rw [Array.getElem?_eq_none h'] at h; cases h
theorem Arr.congr {w : World} {b n : Nat} {k : IntKind} {t : TypeId} {f g : Nat → Nat} (h : Arr w b k n t f) (e : ∀ j, j < n → f j = g j) : Arr w b k n t g := by
  unfold Arr
  rw [← row_congr k n f g e]
  exact h
theorem Arr.drew {w : World} {b n : Nat} {k : IntKind} {t : TypeId} {f : Nat → Nat} (h : Arr w b k n t f) : Arr w.drew b k n t f := h
theorem Arr.drewN {w : World} {b n : Nat} {k : IntKind} {t : TypeId} {f : Nat → Nat} (h : Arr w b k n t f) (q : Nat) : Arr (w.drewN q) b k n t f := by
  unfold Arr
  have : (w.drewN q).heap = w.heap := by simp
  rw [this]; exact h
theorem Arr.setRow {w : World} {b n : Nat} {k : IntKind} {t : TypeId} {f : Nat → Nat} (h : Arr w b k n t f) (g : Nat → Nat) : Arr (w.setRow b (row k n g)) b k n t g :=
  setRow_heap w b _ _ t _ h
theorem Arr.setRow_ne {w : World} {b c n : Nat} {k : IntKind} {t : TypeId} {f : Nat → Nat} (h : Arr w b k n t f) (cs : Array Value) (hb : b ≠ c) : Arr (w.setRow c cs) b k n t f := by
  unfold Arr
  rw [setRow_other w c b cs hb]
  exact h
theorem Arr.new {w : World} {n : Nat} {k : IntKind} {t : TypeId} {f : Nat → Nat} : Arr (w.alloc (.cells (row k n f) t)) w.heap.size k n t f := heap_alloc_last w _

theorem Arr.new1 {w : World} {o : Obj} {n : Nat} {k : IntKind} {t : TypeId} {f : Nat → Nat} : Arr ((w.alloc o).alloc (.cells (row k n f) t)) (w.heap.size + 1) k n t f := by
  have := Arr.new (w := w.alloc o) (n := n) (k := k) (t := t) (f := f)
  rwa [show (w.alloc o).heap.size = w.heap.size + 1 by simp] at this
theorem Arr.new2 {w : World} {o o' : Obj} {n : Nat} {k : IntKind} {t : TypeId} {f : Nat → Nat} : Arr (((w.alloc o).alloc o').alloc (.cells (row k n f) t)) (w.heap.size + 1 + 1) k n t f := by
  have := Arr.new (w := (w.alloc o).alloc o') (n := n) (k := k) (t := t) (f := f)
  rwa [show ((w.alloc o).alloc o').heap.size = w.heap.size + 1 + 1 by simp] at this
theorem Arr.new3 {w : World} {o o' o'' : Obj} {n : Nat} {k : IntKind} {t : TypeId} {f : Nat → Nat} : Arr ((((w.alloc o).alloc o').alloc o'').alloc (.cells (row k n f) t)) (w.heap.size + 1 + 1 + 1) k n t f := by
  have := Arr.new (w := ((w.alloc o).alloc o').alloc o'') (n := n) (k := k) (t := t) (f := f)
  rwa [show (((w.alloc o).alloc o').alloc o'').heap.size = w.heap.size + 1 + 1 + 1 by simp] at this
theorem below1 (w : World) (o : Obj) : Below w.heap.size w (w.alloc o) := (Below.refl _ _).alloc (Nat.le_refl _) _
theorem below2 (w : World) (o o' : Obj) : Below w.heap.size w ((w.alloc o).alloc o') := (below1 w o).alloc (by simp) _
theorem below3 (w : World) (o o' o'' : Obj) : Below w.heap.size w (((w.alloc o).alloc o').alloc o'') := (below2 w o o').alloc (by simp; omega) _
theorem below4 (w : World) (o o' o'' p : Obj) : Below w.heap.size w ((((w.alloc o).alloc o').alloc o'').alloc p) := (below3 w o o' o'').alloc (by simp; omega) _
theorem Arr.al {w : World} {b n : Nat} {k : IntKind} {t : TypeId} {f : Nat → Nat} (h : Arr w b k n t f) (o : Obj) : Arr (w.alloc o) b k n t f := by
  unfold Arr
  rw [Below.heap_alloc w o b h.lt]
  exact h

/-- A whole array taken, as one of several operations whose order is open. -/
theorem still_load_row {P : Program} {o : Oper} {a : Act} {w : World} {K : Act → Prop} (ty : TypeId) (x : Operand) (ho : o.op = .load ty x)
    (g : Nat) (hx : a.eval x = .pointer (some ⟨g, 0, none⟩)) (t : TypeId) (cs : Array Value) (fr : Nat × Nat) (d : TypeDesc) (hg : w.heap[g]? = some (.cells cs t fr))
    (hu : P.underlying ty = some d) (hd : (match d with | .struct _ | .array _ _ => true | _ => false) = true) (hi : (P.info? ty).map (·.size) = some cs.size)
    (h : K (a.put o.dst (.agg cs))) : o.still P a w K := by
  unfold Oper.still execOp
  simp only [ho, hx, Instr.loadAt, Instr.sureAddr, Sem.run_bind, Sem.run_pure, Result.andThen_ok, run_loadVar_row w g t ty cs fr d hg hu hd hi]
  exact ⟨rfl, h⟩

theorem wpList_load_arr {P : Program} {ops : Array Oper} {rest : List Oper} {o : Oper} {a : Act} {w : World} {Q : Exit → Act → World → Prop} (hgd : o.guard = none) (ty : TypeId) (x : Operand) (ho : o.op = .load ty x)
    (g : Nat) (hx : a.eval x = .pointer (some ⟨g, 0, none⟩)) (k : IntKind) (n : Nat) (t : TypeId) (f : Nat → Nat) (hA : Arr w g k n t f) (d : TypeDesc)
    (hu : P.underlying ty = some d) (hd : (match d with | .struct _ | .array _ _ => true | _ => false) = true) (hi : Hid ((P.info? ty).map (·.size) = some n))
    (h : wpList P ops Q rest (a.put o.dst (.agg (row k n f))) w) : wpList P ops Q (o :: rest) a w :=
  wpList_load_row hgd ty x ho g hx t _ (0, 0) d hA hu hd (by rw [hi.out, row_size]) h
theorem wpList_store_arr {P : Program} {ops : Array Oper} {rest : List Oper} {o : Oper} {a : Act} {w : World} {Q : Exit → Act → World → Prop} (hgd : o.guard = none) (ty : TypeId) (x y : Operand) (ho : o.op = .store ty x y)
    (g : Nat) (k : IntKind) (n : Nat) (f : Nat → Nat) (hx : a.eval x = .pointer (some ⟨g, 0, none⟩)) (hy : a.eval y = .agg (row k n f))
    (t : TypeId) (f0 : Nat → Nat) (hA : Arr w g k n t f0) (hi : Hid ((P.info? ty).map (·.size) = some n))
    (h : wpList P ops Q rest (a.put o.dst undef) (w.setRow g (row k n f))) : wpList P ops Q (o :: rest) a w :=
  wpList_store_row hgd ty x y ho g _ hx hy t _ hA (by rw [hi.out, row_size]) (by rw [row_size, row_size]) (row_one _ _ _) h
theorem still_load_arr {P : Program} {o : Oper} {a : Act} {w : World} {K : Act → Prop} (ty : TypeId) (x : Operand) (ho : o.op = .load ty x)
    (g : Nat) (hx : a.eval x = .pointer (some ⟨g, 0, none⟩)) (k : IntKind) (n : Nat) (t : TypeId) (f : Nat → Nat) (hA : Arr w g k n t f) (d : TypeDesc)
    (hu : P.underlying ty = some d) (hd : (match d with | .struct _ | .array _ _ => true | _ => false) = true) (hi : Hid ((P.info? ty).map (·.size) = some n))
    (h : K (a.put o.dst (.agg (row k n f)))) : o.still P a w K :=
  still_load_row ty x ho g hx t _ (0, 0) d hA hu hd (by rw [hi.out, row_size]) h
theorem results_arr {P : Program} {fn : Func} {p : Tmp} {ty : TypeId} (h : fn.results = #[.cell p ty]) (tmps : Array Value) (w : World) (g : Nat) (t : TypeId) (k : IntKind) (n : Nat) (f : Nat → Nat) (d : TypeDesc)
    (hp : tmps.getD p undef = .pointer (some ⟨g, 0, none⟩)) (hA : Arr w g k n t f)
    (hu : P.underlying ty = some d) (hd : (match d with | .struct _ | .array _ _ => true | _ => false) = true) (hi : Hid ((P.info? ty).map (·.size) = some n)) :
    (results fn tmps).run P w = .ok (.agg (row k n f)) w :=
  results_cell_row h tmps w g t _ (0, 0) d hp hA hu hd (by rw [hi.out, row_size])

/-- A package-level variable that holds such numbers. -/
def Tb (w : World) (g : Nat) (k : IntKind) (n : Nat) (f : Nat → Nat) : Prop := ∃ t fr, w.heap[g]? = some (.cells (row k n f) t fr)
theorem Tb.lt {w : World} {g n : Nat} {k : IntKind} {f : Nat → Nat} (h : Tb w g k n f) : g < w.heap.size := by
  obtain ⟨t, fr, h⟩ := h
  rcases Nat.lt_or_ge g w.heap.size with h' | h'
  · exact h'
  · rw [Array.getElem?_eq_none h'] at h; cases h
theorem Tb.keep {w w' : World} {g n : Nat} {k : IntKind} {f : Nat → Nat} (h : Tb w g k n f) (hb : Below w.heap.size w w') : Tb w' g k n f := by
  have hl := h.lt
  obtain ⟨t, fr, h⟩ := h
  exact ⟨t, fr, by rw [hb.block g hl]; exact h⟩
theorem Tb.at_ {w : World} {g n : Nat} {k : IntKind} {f : Nat → Nat} (h : Tb w g k n f) (j : Nat) (hj : j < n) : w.cell? ⟨g, j, none⟩ = some (.int k (f j : Int)) := by
  obtain ⟨t, fr, h⟩ := h
  rw [cell_of_row w g j _ t _ h, row_cell _ _ _ _ hj]
theorem Tb.al {w : World} {g n : Nat} {k : IntKind} {f : Nat → Nat} (h : Tb w g k n f) (o : Obj) : Tb (w.alloc o) g k n f := h.keep (below1 w o)
theorem wpList_load_tb {P : Program} {ops : Array Oper} {rest : List Oper} {o : Oper} {a : Act} {w : World} {Q : Exit → Act → World → Prop} (hgd : o.guard = none) (ty : TypeId) (x : Operand) (ho : o.op = .load ty x)
    (g : Nat) (hx : a.eval x = .pointer (some ⟨g, 0, none⟩)) (k : IntKind) (n : Nat) (f : Nat → Nat) (hA : Tb w g k n f) (d : TypeDesc)
    (hu : P.underlying ty = some d) (hd : (match d with | .struct _ | .array _ _ => true | _ => false) = true) (hi : Hid ((P.info? ty).map (·.size) = some n))
    (h : wpList P ops Q rest (a.put o.dst (.agg (row k n f))) w) : wpList P ops Q (o :: rest) a w := by
  obtain ⟨t, fr, hA⟩ := hA
  exact wpList_load_row hgd ty x ho g hx t _ fr d hA hu hd (by rw [hi.out, row_size]) h
/-- A whole array taken, and laid, as one step of a region that draws its order. -/
theorem step_load_arr {P : Program} {ops : Array Oper} {o : Oper} {a : Act} {w : World} {K : Act → World → Prop} {Q : Exit → Act → World → Prop} {E : Prop} (hgd : o.guard = none) (ty : TypeId) (x : Operand) (ho : o.op = .load ty x)
    (g : Nat) (hx : a.eval x = .pointer (some ⟨g, 0, none⟩)) (k : IntKind) (n : Nat) (t : TypeId) (f : Nat → Nat) (hA : Arr w g k n t f) (d : TypeDesc)
    (hu : P.underlying ty = some d) (hd : (match d with | .struct _ | .array _ _ => true | _ => false) = true) (hi : Hid ((P.info? ty).map (·.size) = some n))
    (h : K (a.put o.dst (.agg (row k n f))) w) : if Region.wanted o (yielded ops a.tmps) = true then Oper.wp P o a w K Q else E := by
  rw [if_pos (by simp [Region.wanted, hgd])]
  exact wp_load_row ty x ho g hx t _ (0, 0) d hA hu hd (by rw [hi.out, row_size]) h
theorem step_store_arr {P : Program} {ops : Array Oper} {o : Oper} {a : Act} {w : World} {K : Act → World → Prop} {Q : Exit → Act → World → Prop} {E : Prop} (hgd : o.guard = none) (hdst : o.dst = none) (ty : TypeId) (x y : Operand) (ho : o.op = .store ty x y)
    (g : Nat) (k : IntKind) (n : Nat) (f : Nat → Nat) (hx : a.eval x = .pointer (some ⟨g, 0, none⟩)) (hy : a.eval y = .agg (row k n f))
    (t : TypeId) (f0 : Nat → Nat) (hA : Arr w g k n t f0) (hi : Hid ((P.info? ty).map (·.size) = some n))
    (h : K a (w.setRow g (row k n f))) : if Region.wanted o (yielded ops a.tmps) = true then Oper.wp P o a w K Q else E := by
  rw [if_pos (by simp [Region.wanted, hgd])]
  exact wp_store_row ty x y ho g _ hx hy t _ hA (by rw [hi.out, row_size]) (by rw [row_size, row_size]) (row_one _ _ _) (by rw [hdst]; exact h)
/-- The ways through a piece of code meet in one frame. -/
theorem wp_frame {P : Program} {c : Code} {Q : Exit → Act → World → Prop} {a : Act} {w : World} (R : World → Prop) (h : ∃ A, c.wp P (fun ex a' w' => ex = .normal ∧ a' = A ∧ R w') a w ∧ ∀ w', R w' → Q .normal A w') : c.wp P Q a w := by
  obtain ⟨A, h, k⟩ := h
  exact Code.wp_mono (by rintro ex a' w' ⟨rfl, rfl, hR⟩; exact k w' hR) h

/-- A place of an array that is a value. -/
theorem run_index_row {P : Program} (t e : TypeId) (n : Nat) (k : IntKind) (f : Nat → Nat) (i : Nat) (hu : P.underlying t = some (.array n e)) (hz : ∀ w, (sizeOf e).run P w = .ok 1 w) (ha : ∀ w, (isAgg e).run P w = .ok false w) (hi : i < n) (w : World) :
    (Instr.index t (.agg (row k n f)) (.int .i64 (i : Int))).run P w = .ok (.int k (f i : Int)) w := by
  have h1 : (0 : Int) ≤ (i : Int) ∧ (i : Int) < (n : Int) := by omega
  simp [Instr.index, run_underlying hu, asIntOf, part, hz, ha, row_cell, hi, h1, go_sem]

end Go.Proofs.YtdhhiodnnnfioaaDoor.Kit
