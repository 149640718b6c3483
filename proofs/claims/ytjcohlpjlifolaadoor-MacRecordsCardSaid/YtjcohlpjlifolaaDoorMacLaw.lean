/-
  What the walks of layer 3's statements share: appends of rows of bytes, whole arrays read where the order is open, arrays that are compared.
-/
import Derived.Test.YtjcohlpjlifolaaDoorMacShown
namespace Go.Proofs.YtjcohlpjlifolaaDoor.MacT
open Go.RowKit Kit ShaMath ShaT MacM
open Go.Sort (grow)
set_option linter.unusedVariables false
set_option maxRecDepth 100000

/-- A row of bytes that the call owns. -/
def Own (base : Nat) (w : World) (v : Value) (l : List UInt8) : Prop := w.ownsRow base 5 1 v l.length (bv l)
theorem Own.new (w : World) : Own w.heap.size (w.alloc (.cells #[] 5)) (.slice (some ⟨w.heap.size, 0, none⟩) 0 0) [] :=
  World.ownsRow_lit w #[] 0 (Nat.le_refl _) (by simp [maxLen]) rfl
theorem Own.full {base : Nat} {w : World} {v : Value} {l : List UInt8} (h : Own base w v l) : ∃ p c, v = .slice p l.length c ∧ Bs w p l ∧ l.length ≤ c ∧ c ≤ 9223372036854775807 ∧ (p = none → c = 0) := own_full h
theorem Own.al {base : Nat} {w : World} {v : Value} {l : List UInt8} (h : Own base w v l) (o : Obj) : Own base (w.alloc o) v l := World.ownsRow.alloc h o
theorem Own.drewN {base : Nat} {w : World} {v : Value} {l : List UInt8} (h : Own base w v l) (q : Nat) : Own base (w.drewN q) v l := h

/-- append of a row of bytes, nil let in. -/
theorem wp_append_bs {w0 w : World} {o : Oper} {a : Act} {K : Act → World → Prop} {Q : Exit → Act → World → Prop} (s x : Operand)
    (ho : o.op = .call { callee := .builtin .append, args := #[s, x], argTypes := #[22, 22] })
    (v : Value) (xs : List UInt8) (hs : a.eval s = v) (hown : Own w0.heap.size w v xs) (hb : Below w0.heap.size w0 w)
    (q : Option Addr) (l : List UInt8) (m c : Nat) (hx : a.eval x = .slice q m c) (hm : l.length = m) (hl : Bs w q l) (hnil : q = none → c = 0) (hsz : xs.length + m ≤ 70368744177664) (z : List UInt8) (hzz : z = xs ++ l)
    (h : ∀ v' w', Own w0.heap.size w' v' z → Below w0.heap.size w0 w' → K (a.put o.dst v') w') : o.wp Tryd.prog a w K Q := by
  subst hzz
  obtain ⟨i0, hi0, hz0, hz1, hzb⟩ := info_parts u8_parts
  have hfin : ∀ v' w', w'.ownsRow w0.heap.size 5 1 v' (xs.length + m) (bv xs ++ bv l) → w.grownBy w' v.ownBlock → K (a.put o.dst v') w' := by
    intro v' w' h1 h2
    refine h v' w' ?_ (hb.grown h2 hb.size (own_base hown))
    unfold Own
    rw [List.length_append, hm, bv_app]
    exact h1
  rcases q with _ | ad
  · obtain rfl := hnil rfl
    have h0 : l.length = 0 := by
      rcases Nat.eq_zero_or_pos l.length with h' | h'
      · exact h'
      · obtain ⟨b, off, e, -⟩ := hl h'
        cases e
    obtain rfl : l = [] := List.eq_nil_of_length_eq_zero h0
    obtain rfl : 0 = m := hm
    have hrun := run_append_owned_none (P := Tryd.prog) (w := w) w0.heap.size 22 o.type 5 i0 1 Tryd.underlying22 hi0 v xs.length (bv xs) hown
    have hf := hfin v w (by have h2 : w.ownsRow w0.heap.size 5 1 v xs.length (bv xs) := hown; simpa [bv] using h2) (World.grownBy.refl w _)
    unfold Oper.wp
    simp [execOp, ho, resolve, invoke, builtin, hs, hx, hrun, Result.andThen]
    exact hf
  · refine wp_append_own w s x 22 ho w0.heap.size 5 i0 (.int .u8 0) 1 1 Tryd.underlying22 hi0 hz0 hz1 hzb rfl (by decide) v xs.length (bv xs) hs hown ad m c (bv l) hx (by rw [bv_length, Nat.mul_one]; exact hm) (fun j u hu => ?_) (bv_one _) (by unfold maxLen; omega) (by omega) hb.size ?_
    · obtain ⟨ad', e, -, hc⟩ := copy_src hl (by
        rcases Nat.eq_zero_or_pos (bv l).length with h' | h'
        · rw [List.eq_nil_of_length_eq_zero h'] at hu
          simp at hu
        · exact h')
      injection e with e
      subst e
      exact hc j u hu
    · intro v' w' h1 h2 _
      exact hfin v' w' h1 h2
theorem wpList_append_bs {w0 w : World} {ops : Array Oper} {rest : List Oper} {o : Oper} {a : Act} {Q : Exit → Act → World → Prop} (hgd : o.guard = none) (s x : Operand)
    (ho : o.op = .call { callee := .builtin .append, args := #[s, x], argTypes := #[22, 22] })
    (v : Value) (xs : List UInt8) (hs : a.eval s = v) (hown : Own w0.heap.size w v xs) (hb : Below w0.heap.size w0 w)
    (q : Option Addr) (l : List UInt8) (m c : Nat) (hx : a.eval x = .slice q m c) (hm : l.length = m) (hl : Bs w q l) (hnil : q = none → c = 0) (hsz : xs.length + m ≤ 70368744177664) (z : List UInt8) (hzz : z = xs ++ l)
    (h : ∀ v' w', Own w0.heap.size w' v' z → Below w0.heap.size w0 w' → wpList Tryd.prog ops Q rest (a.put o.dst v') w') : wpList Tryd.prog ops Q (o :: rest) a w :=
  wpList_plain hgd fun K hK => wp_append_bs s x ho v xs hs hown hb q l m c hx hm hl hnil hsz z hzz fun v' w' h1 h2 => hK _ _ (h v' w' h1 h2)
/-- The same, behind a guard that lets it. -/
theorem wpList_append_bsW {w0 w : World} {ops : Array Oper} {rest : List Oper} {o : Oper} {a : Act} {Q : Exit → Act → World → Prop} (hw : Region.wanted o (yielded ops a.tmps) = true) (s x : Operand)
    (ho : o.op = .call { callee := .builtin .append, args := #[s, x], argTypes := #[22, 22] })
    (v : Value) (xs : List UInt8) (hs : a.eval s = v) (hown : Own w0.heap.size w v xs) (hb : Below w0.heap.size w0 w)
    (q : Option Addr) (l : List UInt8) (m c : Nat) (hx : a.eval x = .slice q m c) (hm : l.length = m) (hl : Bs w q l) (hnil : q = none → c = 0) (hsz : xs.length + m ≤ 70368744177664) (z : List UInt8) (hzz : z = xs ++ l)
    (h : ∀ v' w', Own w0.heap.size w' v' z → Below w0.heap.size w0 w' → wpList Tryd.prog ops Q rest (a.put o.dst v') w') : wpList Tryd.prog ops Q (o :: rest) a w :=
  wpList_step fun K hK => by
    rw [if_pos hw]
    exact wp_append_bs s x ho v xs hs hown hb q l m c hx hm hl hnil hsz z hzz fun v' w' h1 h2 => hK _ _ (h v' w' h1 h2)
theorem lit1_bs (w : World) (c : UInt8) (v : Int) (h : v = (c.toNat : Int)) : Bs (w.alloc (.cells #[.int .u8 v] 5)) (some ⟨w.heap.size, 0, none⟩) [c] := by
  subst h
  intro _
  refine ⟨_, 0, rfl, by simp, fun j hj => ?_⟩
  match j, hj with
  | 0, _ => simp [World.cell?_alloc_mark]
  | j + 1, hj => simp at hj

/-- A whole array taken, as one of several operations whose order is open, beside calls that make memory. -/
theorem quiet_load_arrB {P : Program} {w0 : World} {o : Oper} {a : Act} {K : Act → Prop} (ty : TypeId) (x : Operand) (ho : o.op = .load ty x)
    (g : Nat) (hx : a.eval x = .pointer (some ⟨g, 0, none⟩)) (k : IntKind) (n : Nat) (t : TypeId) (f : Nat → Nat) (hA : Arr w0 g k n t f) (d : TypeDesc)
    (hu : P.underlying ty = some d) (hd : (match d with | .struct _ | .array _ _ => true | _ => false) = true) (hi : Hid ((P.info? ty).map (·.size) = some n))
    (h : K (a.put o.dst (.agg (row k n f)))) : o.quiet P a (fun w' => ∃ p : Regrown, w' = grow (redrawn w0 p.d) p.os) K := by
  refine ⟨_, ?_, h⟩
  rintro _ ⟨p, rfl⟩
  unfold Oper.quietAt execOp
  simp only [ho, hx, Instr.loadAt, Instr.sureAddr, Sem.run_bind, Sem.run_pure, Result.andThen_ok, run_loadVar_row (grow (redrawn w0 p.d) p.os) g t ty _ (0, 0) d (hA.keep (below_regrown w0 p.d p.os) hA.lt) hu hd (by rw [hi.out, row_size])]
  exact ⟨rfl, rfl⟩

/-- Two arrays of 32 bytes that are compared. -/
theorem eql_rows (f g : Nat → Nat) (hf : ∀ i, f i < 256) (hg : ∀ i, g i < 256) (w : World) : (Op.equalIn 10000 25 (.agg (row .u8 32 f)) (.agg (row .u8 32 g))).run Tryd.prog w = .ok (decide (bytesOf 32 f = bytesOf 32 g)) w := by
  rw [row_cells 32 f hf, row_cells 32 g hg]
  have h := run_equalIn_bytes (P := Tryd.prog) w 9998 25 5 32 Tryd.underlying25 Tryd.underlying5 (fun w => size_u8 w) (bytesOf 32 f) (bytesOf 32 g) (bytesOf_length _ _) (bytesOf_length _ _)
  unfold bytesOf at h ⊢
  rw [h]
  congr 1
  rw [Bool.eq_iff_iff]
  simp

end Go.Proofs.YtjcohlpjlifolaaDoor.MacT
