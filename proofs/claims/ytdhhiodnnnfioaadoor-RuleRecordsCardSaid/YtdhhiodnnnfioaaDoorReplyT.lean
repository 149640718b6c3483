/-
  Rows of bytes, of texts and of rows, for layer 5: what came in, what the call owns, what a callee answered; appends.
-/
import Derived.Test.YtdhhiodnnnfioaaDoorBytesIn
import Derived.Test.YtdhhiodnnnfioaaDoorReplyMath
import Derived.OwnWalk
import Derived.Laws.OwnMore
import Derived.Lib.SlBytesConst
import Derived.Lib.SmallJoins
namespace Go.Proofs.YtdhhiodnnnfioaaDoor.ReplyT
open Go.RowKit Kit BytesIn ReplyMath
set_option linter.unusedVariables false
set_option maxRecDepth 100000

theorem u8_parts : (Tryd.prog.info? 5).map (fun i => (i.zero, i.size, i.bytes)) = some (some (.int .u8 0), 1, 1) := by kernel_rfl
theorem below1 (w : World) (o : Obj) : Below w.heap.size w (w.alloc o) := (Below.refl _ _).alloc (Nat.le_refl _) _
theorem size_bytes (l : List UInt8) : (⟨l.toArray⟩ : ByteArray).size = l.length := by simp [ByteArray.size]
theorem str_self (s : ByteArray) : (⟨s.data.toList.toArray⟩ : ByteArray) = s := rfl
theorem str_len (s : ByteArray) : s.data.toList.length = s.size := by simp
theorem same_bytes {a b : ByteArray} (h : a.data.toList = b.data.toList) : a = b := ByteArray.ext (Array.toList_inj.1 h)

theorem Bs.take {w : World} {p : Option Addr} {l : List UInt8} (h : Bs w p l) (n : Nat) : Bs w p (l.take n) := by
  intro h0
  rw [List.length_take] at h0
  obtain ⟨b, off, hp, hlt, hc⟩ := h (by omega)
  refine ⟨b, off, hp, hlt, fun j hj => ?_⟩
  rw [List.length_take] at hj
  rw [hc j (by omega)]
  simp
/-- 'string(b)' of a row that came in. -/
theorem bs_string {w : World} {p : Option Addr} {l : List UInt8} (h : Bs w p l) (n cap : Nat) (hn : n = l.length) : (convert 40 9 (.slice p n cap)).run Tryd.prog w = .ok (.string ⟨l.toArray⟩) w := by
  subst hn
  by_cases h0 : 0 < l.length
  · obtain ⟨b, off, rfl, hlt, hc⟩ := h h0
    have := Lib.run_convert_whole (P := Tryd.prog) w 40 5 9 Tryd.underlying40 Tryd.underlying5 Tryd.underlying9 b off ⟨l.toArray⟩ (fun i hi => by
      rw [size_bytes] at hi
      rw [hc i hi]
      rfl) cap
    rw [size_bytes] at this
    exact this
  · have : l = [] := List.eq_nil_of_length_eq_zero (by omega)
    subst this
    show (convert 40 9 (.slice p 0 cap)).run Tryd.prog w = _
    rw [run_convert_bytes_string w 40 9 5 _ 0 cap Tryd.underlying40 Tryd.underlying5 Tryd.underlying9]
    cases p <;> simp [Conv.bytesToString, loadCells, loadCellsFrom]
    all_goals rfl
theorem bv_at (l : List UInt8) (j : Nat) (h : j < l.length) : (bv l)[j]? = some (.int .u8 (l[j].toNat : Int)) := by simp [bv, h]
theorem copy_src {w : World} {p : Option Addr} {l : List UInt8} (h : Bs w p l) (h0 : 0 < (bv l).length) : ∃ ad, p = some ad ∧ ad.block < w.heap.size ∧ ∀ j v, (bv l)[j]? = some v → w.cell? (ad.add j) = some v := by
  rw [bv_length] at h0
  obtain ⟨b, off, rfl, hlt, hc⟩ := h h0
  refine ⟨_, rfl, hlt, fun j v hv => ?_⟩
  have hj : j < l.length := by
    rcases Nat.lt_or_ge j l.length with h | h
    · exact h
    · rw [List.getElem?_eq_none (by rw [bv_length]; exact h)] at hv; cases hv
  have hv3 := Option.some.inj ((bv_at l j hj).symm.trans hv)
  subst hv3
  rw [Addr.add_lit]
  exact hc j hj
theorem bytes_bs (w : World) (s : ByteArray) : Bs (Lib.bytesWorld w 5 s) (some ⟨w.heap.size, 0, none⟩) s.data.toList := by
  intro h0
  refine ⟨_, 0, rfl, by rw [Lib.bytesWorld_size]; omega, fun j hj => ?_⟩
  rw [Nat.zero_add]
  exact (bytesWorld_row w 5 s).at_ j hj

/-- A row of bytes that was answered: in new memory, from block 'base' on. -/
def Ans (base : Nat) (w : World) (v : Value) (l : List UInt8) : Prop :=
  ∃ p c, v = .slice p l.length c ∧ Bs w p l ∧ (∀ a, p = some a → base ≤ a.block) ∧ l.length ≤ c ∧ c ≤ 9223372036854775807 ∧ (p = none → c = 0)
theorem Ans.keep {base : Nat} {w w' : World} {v : Value} {l : List UInt8} (h : Ans base w v l) (hb : Below w.heap.size w w') : Ans base w' v l := by
  obtain ⟨p, c, hv, hB, h1⟩ := h
  exact ⟨p, c, hv, hB.keep hb, h1⟩
theorem ans_none (base : Nat) (w : World) : Ans base w (.slice none 0 0) [] := ⟨none, 0, rfl, fun h => absurd h (by simp), fun a h => (by cases h), by simp, by omega, fun _ => rfl⟩
theorem Ans.base {b b' : Nat} {w : World} {v : Value} {l : List UInt8} (h : Ans b w v l) (hb : b' ≤ b) : Ans b' w v l := by
  obtain ⟨p, c, hv, hB, h1, h2⟩ := h
  exact ⟨p, c, hv, hB, fun a ha => Nat.le_trans hb (h1 a ha), h2⟩
/-- A row of bytes is answered. -/
def Gives (l : List UInt8) (w : World) (e : Ending) (w' : World) : Prop := ∃ v, e = .returned v ∧ Ans w.heap.size w' v l ∧ Below w.heap.size w w'
theorem Gives.of {l l' : List UInt8} {w : World} {e : Ending} {w' : World} (h : Gives l w e w') (hl : l = l') : Gives l' w e w' := hl ▸ h
/-- '[]byte(s)'. -/
theorem ans_conv (w : World) (s : ByteArray) (hs : s.size ≤ 9223372036854775807) : Ans w.heap.size (Lib.bytesWorld w 5 s) (.slice (some ⟨w.heap.size, 0, none⟩) s.size (grownCap w s.size 0 5)) s.data.toList := by
  refine ⟨_, _, by rw [str_len], bytes_bs w s, fun a ha => ?_, ?_, ?_, fun h => by cases h⟩
  · injection ha with ha
    subst ha
    exact Nat.le_refl _
  · rw [str_len]; exact grownCap_ge _ _ _ _
  · have := grownCap_le_maxLen w s.size 0 5 (by unfold maxLen; omega)
    unfold maxLen at this
    omega
theorem run_bytes (w : World) (s : ByteArray) : (convert 9 40 (.string s)).run Tryd.prog w = .ok (.slice (some ⟨w.heap.size, 0, none⟩) s.size (grownCap w s.size 0 5)) (Lib.bytesWorld w 5 s) :=
  Lib.run_convert_string_bytes (P := Tryd.prog) w 9 40 5 s Tryd.underlying9 Tryd.underlying40 Tryd.underlying5

/-- A text, told as bytes, is answered. -/
theorem gives_conv {w w1 : World} (hb : Below w.heap.size w w1) (s : ByteArray) (n : Nat) (hn : s.size = n) (hs : n ≤ 9223372036854775807) (l : List UInt8) (hl : s.data.toList = l) :
    Gives l w (.returned (.slice (some ⟨w1.heap.size, 0, none⟩) n (grownCap w1 n 0 5))) (Lib.bytesWorld w1 5 s) := by
  subst hl
  subst hn
  exact ⟨_, rfl, (ans_conv w1 s hs).base hb.size, hb.trans ((bytesWorld_below w1 5 s).mono hb.size)⟩

theorem lit_bs (w : World) (l : List UInt8) (t : TypeId) (m : Nat × Nat) : Bs (w.alloc (.cells (bv l).toArray t m)) (some ⟨w.heap.size, 0, none⟩) l := by
  intro h0
  refine ⟨_, 0, rfl, by simp, fun j hj => ?_⟩
  have hh : (w.alloc (.cells (bv l).toArray t m)).heap[w.heap.size]? = some (.cells (bv l).toArray t m) := by
    show (w.heap.push _)[w.heap.size]? = _
    simp
  rw [cell_of_row _ _ _ _ _ _ hh, Nat.zero_add]
  simp [bv, hj]
/-- A constant text, told as bytes, is answered. -/
theorem gives_lit (w : World) (l : List UInt8) (t : TypeId) (m : Nat × Nat) (hs : l.length ≤ 9223372036854775807) : Gives l w (.returned (.slice (some ⟨w.heap.size, 0, none⟩) l.length l.length)) (w.alloc (.cells (bv l).toArray t m)) := by
  refine ⟨_, rfl, ⟨_, _, rfl, lit_bs w l t m, fun a ha => ?_, Nat.le_refl _, hs, fun h => by cases h⟩, (Below.refl _ _).alloc (Nat.le_refl _) _⟩
  injection ha with ha
  subst ha
  exact Nat.le_refl _
theorem run_const (W : World) (C : Array Value) (n c : Nat) : (convert 40 40 (.slice (some ⟨W.heap.size, 0, none⟩) n c)).run Tryd.prog (W.alloc (.cells C 5)) = .ok (.slice (some ⟨W.heap.size, 0, none⟩) n c) (W.alloc (.cells C 5 (C.size, C.size + 1))) :=
  Lib.run_convert_bytes_const (P := Tryd.prog) W 40 5 C n c Tryd.underlying40 Tryd.underlying5

/-- A row of bytes that the call owns. -/
def Own (base : Nat) (w : World) (v : Value) (l : List UInt8) : Prop := w.ownsRow base 5 1 v l.length (bv l)
theorem Own.new (w : World) : Own w.heap.size (w.alloc (.cells #[] 5)) (.slice (some ⟨w.heap.size, 0, none⟩) 0 0) [] :=
  World.ownsRow_lit w #[] 0 (Nat.le_refl _) (by simp [maxLen]) rfl
theorem Own.al {base : Nat} {w : World} {v : Value} {l : List UInt8} (h : Own base w v l) (o : Obj) : Own base (w.alloc o) v l := World.ownsRow.alloc h o
theorem Own.drewN {base : Nat} {w : World} {v : Value} {l : List UInt8} (h : Own base w v l) (q : Nat) : Own base (w.drewN q) v l := h
theorem Own.ans {base : Nat} {w : World} {v : Value} {l : List UInt8} (h : Own base w v l) : Ans base w v l := by
  have hl : (bv l).length = l.length := bv_length l
  rcases h.2 with ⟨rfl, h0⟩ | ⟨g, cap, cur, rfl, hgb, hh, hc, hm, hsz, htake⟩
  · obtain rfl : l = [] := List.eq_nil_of_length_eq_zero h0
    exact ans_none _ _
  · unfold maxLen at hm
    refine ⟨_, cap, rfl, fun h0 => ⟨g, 0, rfl, ?_, fun j hj => ?_⟩, fun a ha => ?_, hc, by omega, fun h => by cases h⟩
    · rcases Nat.lt_or_ge g w.heap.size with h' | h'
      · exact h'
      · rw [Array.getElem?_eq_none h'] at hh; cases hh
    · rw [Nat.zero_add, World.ownsRow.cellAt h j (by omega)]
      simp [bv, hj]
    · injection ha with ha
      subst ha
      exact hgb

/-- append of a row of bytes, nil let in. -/
theorem wp_append_bs {w0 w : World} {o : Oper} {a : Act} {K : Act → World → Prop} {Q : Exit → Act → World → Prop} (s x : Operand)
    (ho : o.op = .call { callee := .builtin .append, args := #[s, x], argTypes := #[40, 40] })
    (v : Value) (xs : List UInt8) (hs : a.eval s = v) (hown : Own w0.heap.size w v xs) (hb : Below w0.heap.size w0 w)
    (q : Option Addr) (l : List UInt8) (m c : Nat) (hx : a.eval x = .slice q m c) (hm : l.length = m) (hl : Bs w q l) (hnil : q = none → c = 0) (hsz : xs.length + m ≤ 70368744177664) (z : List UInt8) (hzz : z = xs ++ l)
    (h : ∀ v' w', Own w0.heap.size w' v' z → Below w0.heap.size w0 w' → K (a.put o.dst v') w') : o.wp Tryd.prog a w K Q := by
  subst hzz
  obtain ⟨i0, hi0, hz0, hz1, hzb⟩ := info_parts u8_parts
  have hfin : ∀ v' w', w'.ownsRow w0.heap.size 5 1 v' (xs.length + m) (bv xs ++ bv l) → w.grownBy w' v.ownBlock → K (a.put o.dst v') w' := by
    intro v' w' h1 h2
    refine h v' w' ?_ (hb.grown h2 hb.size (own_base hown))
    unfold Own
    rw [List.length_append, hm, bv_app]
    exact h1
  rcases q with _ | ad
  · obtain rfl := hnil rfl
    have h0 : l.length = 0 := by
      rcases Nat.eq_zero_or_pos l.length with h' | h'
      · exact h'
      · obtain ⟨b, off, e, -⟩ := hl h'
        cases e
    obtain rfl : l = [] := List.eq_nil_of_length_eq_zero h0
    obtain rfl : 0 = m := hm
    have hrun := run_append_owned_none (P := Tryd.prog) (w := w) w0.heap.size 40 o.type 5 i0 1 Tryd.underlying40 hi0 v xs.length (bv xs) hown
    have hf := hfin v w (by have h2 : w.ownsRow w0.heap.size 5 1 v xs.length (bv xs) := hown; simpa [bv] using h2) (World.grownBy.refl w _)
    unfold Oper.wp
    simp [execOp, ho, resolve, invoke, builtin, hs, hx, hrun, Result.andThen]
    exact hf
  · refine wp_append_own w s x 40 ho w0.heap.size 5 i0 (.int .u8 0) 1 1 Tryd.underlying40 hi0 hz0 hz1 hzb rfl (by decide) v xs.length (bv xs) hs hown ad m c (bv l) hx (by rw [bv_length, Nat.mul_one]; exact hm) (fun j u hu => ?_) (bv_one _) (by unfold maxLen; omega) (by omega) hb.size ?_
    · obtain ⟨ad', e, -, hc⟩ := copy_src hl (by
        rcases Nat.eq_zero_or_pos (bv l).length with h' | h'
        · rw [List.eq_nil_of_length_eq_zero h'] at hu
          simp at hu
        · exact h')
      injection e with e
      subst e
      exact hc j u hu
    · intro v' w' h1 h2 _
      exact hfin v' w' h1 h2
theorem wpList_append_bs {w0 w : World} {ops : Array Oper} {rest : List Oper} {o : Oper} {a : Act} {Q : Exit → Act → World → Prop} (hgd : o.guard = none) (s x : Operand)
    (ho : o.op = .call { callee := .builtin .append, args := #[s, x], argTypes := #[40, 40] })
    (v : Value) (xs : List UInt8) (hs : a.eval s = v) (hown : Own w0.heap.size w v xs) (hb : Below w0.heap.size w0 w)
    (q : Option Addr) (l : List UInt8) (m c : Nat) (hx : a.eval x = .slice q m c) (hm : l.length = m) (hl : Bs w q l) (hnil : q = none → c = 0) (hsz : xs.length + m ≤ 70368744177664) (z : List UInt8) (hzz : z = xs ++ l)
    (h : ∀ v' w', Own w0.heap.size w' v' z → Below w0.heap.size w0 w' → wpList Tryd.prog ops Q rest (a.put o.dst v') w') : wpList Tryd.prog ops Q (o :: rest) a w :=
  wpList_plain hgd fun K hK => wp_append_bs s x ho v xs hs hown hb q l m c hx hm hl hnil hsz z hzz fun v' w' h1 h2 => hK _ _ (h v' w' h1 h2)
/-- An append of a row of bytes, as one step of a region that draws its order. -/
theorem step_append_bs {w0 w : World} {ops : Array Oper} {o : Oper} {a : Act} {K : Act → World → Prop} {Q : Exit → Act → World → Prop} {E : Prop} (hgd : o.guard = none) (s x : Operand)
    (ho : o.op = .call { callee := .builtin .append, args := #[s, x], argTypes := #[40, 40] })
    (v : Value) (xs : List UInt8) (hs : a.eval s = v) (hown : Own w0.heap.size w v xs) (hb : Below w0.heap.size w0 w)
    (q : Option Addr) (l : List UInt8) (m c : Nat) (hx : a.eval x = .slice q m c) (hm : l.length = m) (hl : Bs w q l) (hnil : q = none → c = 0) (hsz : xs.length + m ≤ 70368744177664) (z : List UInt8) (hzz : z = xs ++ l)
    (h : ∀ v' w', Own w0.heap.size w' v' z → Below w0.heap.size w0 w' → K (a.put o.dst v') w') : if Region.wanted o (yielded ops a.tmps) = true then Oper.wp Tryd.prog o a w K Q else E := by
  rw [if_pos (by simp [Region.wanted, hgd])]
  exact wp_append_bs s x ho v xs hs hown hb q l m c hx hm hl hnil hsz z hzz h
theorem own_keep {base : Nat} {w w' : World} {v : Value} {l : List UInt8} (h : Own base w v l) (hb : Below w.heap.size w w') : Own base w' v l := by
  refine ⟨h.1, ?_⟩
  rcases h.2 with ⟨e, h0⟩ | ⟨g, cap, cur, e, hg, hh, h1, h2, h3, h4⟩
  · exact Or.inl ⟨e, h0⟩
  · have hlt : g < w.heap.size := by
      rcases Nat.lt_or_ge g w.heap.size with h' | h'
      · exact h'
      · rw [Array.getElem?_eq_none h'] at hh; cases hh
    exact Or.inr ⟨g, cap, cur, e, hg, by rw [hb.block g hlt]; exact hh, h1, h2, h3, h4⟩
/-- A row without bytes, of a block of its own. -/
def Emp (w : World) (g : Nat) : Prop := w.heap[g]? = some (.cells #[] 5 (0, 0))
theorem emp_new (w : World) : Emp (w.alloc (.cells #[] 5)) w.heap.size := by unfold Emp; show (w.heap.push _)[w.heap.size]? = _; simp
theorem Emp.lt {w : World} {g : Nat} (h : Emp w g) : g < w.heap.size := by
  rcases Nat.lt_or_ge g w.heap.size with h' | h'
  · exact h'
  · unfold Emp at h; rw [Array.getElem?_eq_none h'] at h; cases h
theorem Emp.keep {w w' : World} {g : Nat} (h : Emp w g) (hb : Below w.heap.size w w') : Emp w' g := by
  unfold Emp
  rw [hb.block g h.lt]
  exact h
theorem Emp.own {base : Nat} {w : World} {g : Nat} (h : Emp w g) (hg : base ≤ g) : Own base w (.slice (some ⟨g, 0, none⟩) 0 0) [] :=
  ⟨by simp [bv], Or.inr ⟨g, 0, #[], rfl, hg, h, Nat.le_refl _, by unfold maxLen; omega, rfl, rfl⟩⟩
theorem emp_a (w : World) : Emp (w.alloc (.cells #[] 5)).drew w.heap.size := emp_new w
theorem emp_b (w : World) : Emp ((w.alloc (.cells #[] 5)).alloc (.cells #[] 5)).drew w.heap.size :=
  (show Emp ((w.alloc (.cells #[] 5)).alloc (.cells #[] 5)) w.heap.size from (emp_new w).keep (below1 _ _))
theorem emp_c (w : World) : Emp ((w.alloc (.cells #[] 5)).alloc (.cells #[] 5)).drew (w.heap.size + 1) := by
  have h := emp_new (w.alloc (.cells #[] 5))
  rwa [show (w.alloc (.cells #[] 5)).heap.size = w.heap.size + 1 by simp] at h
theorem bel_a (w : World) (o : Obj) : Below w.heap.size w (w.alloc o).drew := (below1 w o).drew
theorem bel_b (w : World) (o o' : Obj) : Below w.heap.size w ((w.alloc o).alloc o').drew := ((below1 w o).alloc (by simp) o').drew
/-- 'append([]byte{}, b..)': what is answered is new, and all that was stays. -/
theorem run_copy (base : Nat) (w : World) (ty : TypeId) (g : Nat) (hown : Emp w g) (hg : base ≤ g) (hbw : base ≤ w.heap.size) (q : Option Addr) (l : List UInt8) (m c : Nat) (hm : l.length = m) (hl : Bs w q l) (hnil : q = none → c = 0) (hsz : m ≤ 70368744177664) :
    ∃ v' w', (Builtin.append_ #[40, 40] ty #[.slice (some ⟨g, 0, none⟩) 0 0, .slice q m c]).run Tryd.prog w = .ok v' w' ∧ Ans base w' v' l ∧ Below w.heap.size w w' := by
  obtain ⟨i0, hi0, hz0, hz1, hzb⟩ := info_parts u8_parts
  have hO := hown.own hg
  rcases q with _ | ad
  · obtain rfl := hnil rfl
    have h0 : l.length = 0 := by
      rcases Nat.eq_zero_or_pos l.length with h' | h'
      · exact h'
      · obtain ⟨b, off, e, -⟩ := hl h'
        cases e
    obtain rfl : l = [] := List.eq_nil_of_length_eq_zero h0
    obtain rfl : 0 = m := hm
    have hrun := run_append_owned_none (P := Tryd.prog) (w := w) base 40 ty 5 i0 1 Tryd.underlying40 hi0 _ 0 (bv []) hO
    exact ⟨_, _, hrun, hO.ans, Below.refl _ _⟩
  · have hnews : ∀ j u, (bv l)[j]? = some u → w.cell? (ad.add j) = some u := fun j u hu => by
      obtain ⟨ad', e, -, hc⟩ := copy_src hl (by
        rcases Nat.eq_zero_or_pos (bv l).length with h' | h'
        · rw [List.eq_nil_of_length_eq_zero h'] at hu
          simp at hu
        · exact h')
      injection e with e
      subst e
      exact hc j u hu
    rcases Nat.eq_zero_or_pos m with h0 | h0
    · subst h0
      obtain rfl : l = [] := List.eq_nil_of_length_eq_zero hm
      have hrun := run_append_room (P := Tryd.prog) w 40 ty 5 i0 Tryd.underlying40 hi0 g 0 0 #[] hown ad 0 c [] (by simp) (fun j u hu => by simp at hu) (fun u hu => by simp at hu) (Nat.le_refl _) (by simp)
      have hrun2 := hrun.trans (show _ = Result.ok (.slice (some ⟨g, 0, none⟩) 0 0) (w.setRow g #[]) by simp)
      have hb : Below w.heap.size w (w.setRow g #[]) := ⟨rfl, rfl, rfl, by simp [World.setRow], fun k hk => by
        by_cases e : k = g
        · subst e
          rw [setRow_heap w k #[] _ _ _ hown, hown]
        · exact setRow_other w g k _ e⟩
      exact ⟨_, _, hrun2, (Emp.own (show Emp (w.setRow g #[]) g from hown.keep hb) hg).ans, hb⟩
    · obtain ⟨v', w', hrun, ho', hgr⟩ := run_append_arg_grows (P := Tryd.prog) w 40 ty 5 i0 (.int .u8 0) 1 1 Tryd.underlying40 hi0 hz0 hz1 hzb rfl (by decide) ⟨g, 0, none⟩ 0 0 [] rfl (fun j u hu => by simp at hu) ad m c (bv l) (by rw [bv_length, Nat.mul_one]; exact hm) hnews (by omega) (by unfold maxLen; omega) (by omega)
      have ho2 : Own w.heap.size w' v' l := by
        unfold Own
        rw [hm]
        simpa using ho'
      exact ⟨_, _, hrun, ho2.ans.base hbw, ⟨hgr.os, hgr.tape, hgr.output, hgr.size, fun k hk => hgr.block k hk (fun e => by cases e)⟩⟩
/-- The same as one step of a region that draws its order. -/
theorem step_copy_bs (base : Nat) {w : World} {ops : Array Oper} {o : Oper} {a : Act} {K : Act → World → Prop} {Q : Exit → Act → World → Prop} {E : Prop} (hgd : o.guard = none) (s x : Operand)
    (ho : o.op = .call { callee := .builtin .append, args := #[s, x], argTypes := #[40, 40] })
    (g : Nat) (hs : a.eval s = .slice (some ⟨g, 0, none⟩) 0 0) (hown : Emp w g) (hg : base ≤ g) (hbw : base ≤ w.heap.size)
    (q : Option Addr) (l : List UInt8) (m c : Nat) (hx : a.eval x = .slice q m c) (hm : l.length = m) (hl : Bs w q l) (hnil : q = none → c = 0) (hsz : m ≤ 70368744177664)
    (h : ∀ v' w', Ans base w' v' l → Below w.heap.size w w' → K (a.put o.dst v') w') : if Region.wanted o (yielded ops a.tmps) = true then Oper.wp Tryd.prog o a w K Q else E := by
  rw [if_pos (by simp [Region.wanted, hgd])]
  obtain ⟨v', w', hrun, h1, h2⟩ := run_copy base w o.type g hown hg hbw q l m c hm hl hnil hsz
  unfold Oper.wp execOp
  simp only [ho, resolve, invoke, builtin, Sem.run_bind, Sem.run_pure, Result.andThen_ok, List.map_toArray, List.map_cons, List.map_nil, hs, hx, hrun]
  exact h v' w' h1 h2
theorem lit1_bs (w : World) (c : UInt8) (v : Int) (h : v = (c.toNat : Int)) : Bs (w.alloc (.cells #[.int .u8 v] 5)) (some ⟨w.heap.size, 0, none⟩) [c] := by
  subst h
  intro _
  refine ⟨_, 0, rfl, by simp, fun j hj => ?_⟩
  match j, hj with
  | 0, _ => simp [World.cell?_alloc_mark]
  | j + 1, hj => simp at hj

end Go.Proofs.YtdhhiodnnnfioaaDoor.ReplyT
