/-
  A row of records that is made by the call itself, and into which another one of the same length is copied.
-/
import Derived.Test.YteadjcligmmkmaaDoorGRow
import Derived.Laws.CopyOwn
import Derived.OwnWalk
namespace Go.Proofs.YteadjcligmmkmaaDoor.RowG
open Go.RowKit Kit
set_option linter.unusedVariables false
set_option maxRecDepth 100000

variable {α : Type} {E : Enc α}
/-- A row just made, of which the cells are not looked at. -/
def Made (E : Enc α) (w : World) (g n : Nat) : Prop := ∃ cur, w.heap[g]? = some (.cells cur E.ty (0, 0)) ∧ n ≤ maxLen ∧ cur.size = n * E.sz
theorem made_of {w : World} {base g n : Nat} {xs : List Value} (h : w.ownsRow base E.ty E.sz (.slice (some ⟨g, 0, none⟩) n n) n xs) : Made E w g n := by
  rcases h.2 with ⟨e, -⟩ | ⟨g', cap, cur, e, -, hh, -, hm, hs, -⟩
  · cases e
  · injection e with e1 _ e3
    injection e1 with e1
    injection e1 with e1
    subst e1 e3
    exact ⟨cur, hh, hm, hs⟩
theorem wpList_make_r (E : Enc α) {w : World} {ops : Array Oper} {rest : List Oper} {o : Oper} {a : Act} {Q : Exit → Act → World → Prop} (hgd : o.guard = none) (l c : Operand) (hop : o.op = Op.makeSlice E.slt l c) (n : Nat) (hl : a.eval l = .int .i64 n) (hc : a.eval c = .int .i64 n) (hn : n ≤ 1048576)
    (hK : ∀ w', Made E w' w.heap.size n → Below w.heap.size w w' → wpList Tryd.prog ops Q rest (a.put o.dst (.slice (some ⟨w.heap.size, 0, none⟩) n n)) w') : wpList Tryd.prog ops Q (o :: rest) a w := by
  obtain ⟨i0, hi0, hz0, hz1, hzb⟩ := info_parts E.info
  refine wpList_make_full w hgd l c E.slt hop w.heap.size E.ty i0 E.zero E.sz E.und hi0 hz0 hz1 .i64 .i64 _ _ n hl hc rfl rfl ?_ (by unfold maxLen; omega) (Nat.le_refl _) ?_
  · rw [hzb]
    have h1 := E.by64
    have : E.bytes * n ≤ 256 * 1048576 := Nat.mul_le_mul h1 hn
    omega
  · intro w' h1 h2
    exact hK w' (made_of h1) ((Below.refl _ _).grown h2 (Nat.le_refl _) (fun k hk => by cases hk))
theorem run_copy_r (E : Enc α) (w : World) (ty : TypeId) (g n : Nat) (h : Made E w g n) (q : Option Addr) (L : List α) (c : Nat) (hL : L.length = n) (hR : Rs E w q L) :
    ∃ w', (Builtin.copy_ #[E.slt, E.slt] ty #[.slice (some ⟨g, 0, none⟩) n n, .slice q n c]).run Tryd.prog w = .ok (goInt n) w' ∧ OwnR E g w' (.slice (some ⟨g, 0, none⟩) n n) L ∧ ∀ B w0, Below B w0 w → B ≤ g → Below B w0 w' := by
  obtain ⟨i0, hi0, hz0, hz1, hzb⟩ := info_parts E.info
  obtain ⟨cur, hh, hm, hs⟩ := h
  rcases Nat.eq_zero_or_pos n with h0 | h0
  · subst h0
    obtain rfl : L = [] := List.eq_nil_of_length_eq_zero hL
    refine ⟨w, ?_, ⟨by simp [flat], Or.inr ⟨g, 0, cur, rfl, Nat.le_refl _, hh, Nat.le_refl _, hm, hs, by simp [flat]⟩⟩, fun B w0 hb _ => hb⟩
    cases q with
    | none => simp [Builtin.copy_, run_underlying E.und, Builtin.lenOf, Builtin.firstCells, sizeOf, typeInfo, hi0, storeCells]
    | some ad => simp [Builtin.copy_, run_underlying E.und, Builtin.lenOf, Builtin.firstCells, sizeOf, typeInfo, hi0, storeCells, loadCells, loadCellsFrom]
  · obtain ⟨b, off, rfl, hlt, hc⟩ := hR (by omega)
    have hfl : (flat E L).length = n * E.sz := by rw [flat_len, hL]
    have hl := run_loadCells_list (P := Tryd.prog) w ⟨b, off, none⟩ (flat E L) (fun j v hv => by
      rw [Addr.add_lit, ← hv]
      exact hc j (by rw [← flat_len E L]; exact (List.getElem?_eq_some_iff.1 hv).1))
    have hst := run_storeCells_at Tryd.prog g 0 E.ty (flat E L) 0 cur w hh (by rw [hfl, hs]; omega) (flat_one E L)
    rw [hfl] at hl hst
    refine ⟨_, by simp [Builtin.copy_, run_underlying E.und, Builtin.lenOf, Builtin.firstCells, sizeOf, typeInfo, hi0, hz1, hl, hst]; rfl, ?_, fun B w0 hb hBg => below_setRow hb hBg _⟩
    refine ⟨by rw [flat_len], Or.inr ⟨g, n, _, by rw [hL], Nat.le_refl _, setRow_heap w g cur _ E.ty _ hh, Nat.le_of_eq hL, hm, ?_, ?_⟩⟩
    · simp [hfl, hs]
    · rw [hL]
      simp [hfl]
theorem wpList_copy_r (E : Enc α) {w : World} {ops : Array Oper} {rest : List Oper} {o : Oper} {a : Act} {Q : Exit → Act → World → Prop} (hgd : o.guard = none) (d s : Operand)
    (ho : o.op = .call { callee := .builtin .copy, args := #[d, s], argTypes := #[E.slt, E.slt] }) (g n c : Nat) (hd : a.eval d = .slice (some ⟨g, 0, none⟩) n n) (h : Made E w g n) (q : Option Addr) (L : List α) (hs : a.eval s = .slice q n c) (hL : L.length = n) (hR : Rs E w q L)
    (B : Nat) (w0 : World) (hb : Below B w0 w) (hBg : B ≤ g) (hK : ∀ w', OwnR E B w' (.slice (some ⟨g, 0, none⟩) n n) L → Below B w0 w' → wpList Tryd.prog ops Q rest (a.put o.dst (goInt n)) w') : wpList Tryd.prog ops Q (o :: rest) a w := by
  refine wpList_plain hgd fun K hK' => ?_
  obtain ⟨w', hrun, h1, h2⟩ := run_copy_r E w o.type g n h q L c hL hR
  unfold Oper.wp
  simp [execOp, ho, resolve, invoke, builtin, hd, hs, hrun, Result.andThen]
  exact hK' _ _ (hK w' (h1.low hBg) (h2 B w0 hb hBg))

end Go.Proofs.YteadjcligmmkmaaDoor.RowG
