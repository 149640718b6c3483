/-
  A row of bytes of the call's own, of whatever marks; rows of texts and rows of rows, for layer 5.
-/
import Derived.Test.YtodpocciimbjbaaDoorReplyT
import Derived.ArgAppend
import Derived.Laws.Slices
import Derived.Lib.AppendStr
import Derived.Maps.AppendAt
import Derived.Lib.LazyBuf
namespace Go.Proofs.YtodpocciimbjbaaDoor.ReplyT
open Go.RowKit Kit BytesIn ReplyMath
set_option linter.unusedVariables false
set_option maxRecDepth 100000

/-- A row of bytes of the call's own: its cells are there up to its capacity, and none is frozen. -/
def OwnG (base : Nat) (w : World) (v : Value) (l : List UInt8) : Prop :=
  (v = .slice none 0 0 ∧ l = []) ∨ ∃ g cap, v = .slice (some ⟨g, 0, none⟩) l.length cap ∧ base ≤ g ∧ g < w.heap.size ∧ l.length ≤ cap ∧ cap ≤ 9223372036854775807 ∧
    (∀ j (h : j < l.length), w.cell? ⟨g, j, none⟩ = some (.int .u8 (l[j].toNat : Int))) ∧ (∀ j, j < cap → (w.cell? ⟨g, j, none⟩).isSome = true ∧ w.frozen? ⟨g, j, none⟩ = false)
theorem OwnG.ans {base : Nat} {w : World} {v : Value} {l : List UInt8} (h : OwnG base w v l) : Ans base w v l := by
  rcases h with ⟨rfl, rfl⟩ | ⟨g, cap, rfl, hg, hlt, hc, hm, hcell, -⟩
  · exact ans_none _ _
  · refine ⟨_, cap, rfl, fun h0 => ⟨g, 0, rfl, hlt, fun j hj => by rw [Nat.zero_add]; exact hcell j hj⟩, fun a ha => ?_, hc, hm, fun h => by cases h⟩
    injection ha with ha
    subst ha
    exact hg
theorem Own.gen {base : Nat} {w : World} {v : Value} {l : List UInt8} (h : Own base w v l) : OwnG base w v l := by
  rcases h.2 with ⟨rfl, h0⟩ | ⟨g, cap, cur, rfl, hgb, hh, hc, hm, hsz, htake⟩
  · exact Or.inl ⟨rfl, List.eq_nil_of_length_eq_zero h0⟩
  · unfold maxLen at hm
    have hlt : g < w.heap.size := by
      rcases Nat.lt_or_ge g w.heap.size with h' | h'
      · exact h'
      · rw [Array.getElem?_eq_none h'] at hh; cases hh
    refine Or.inr ⟨g, cap, rfl, hgb, hlt, hc, by omega, fun j hj => ?_, fun j hj => ⟨?_, ?_⟩⟩
    · rw [World.ownsRow.cellAt h j (by omega)]
      simp [bv, hj]
    · rw [cell_of_row _ _ _ _ _ _ hh, Array.getElem?_eq_getElem (by omega)]
      rfl
    · exact Go.Lib.frozen_of_heap hh j
theorem OwnG.keep {base : Nat} {w w' : World} {v : Value} {l : List UInt8} (h : OwnG base w v l) (hb : Below w.heap.size w w') : OwnG base w' v l := by
  rcases h with h | ⟨g, cap, rfl, hg, hlt, hc, hm, hcell, hf⟩
  · exact Or.inl h
  · refine Or.inr ⟨g, cap, rfl, hg, Nat.lt_of_lt_of_le hlt hb.size, hc, hm, fun j hj => ?_, fun j hj => ?_⟩
    · rw [hb.cell (p := ⟨g, j, none⟩) hlt]; exact hcell j hj
    · rw [hb.cell (p := ⟨g, j, none⟩) hlt, hb.frozen (p := ⟨g, j, none⟩) hlt]; exact hf j hj
theorem OwnG.drewN {base : Nat} {w : World} {v : Value} {l : List UInt8} (h : OwnG base w v l) (q : Nat) : OwnG base (w.drewN q) v l := h
/-- '[]byte(s)' is one. -/
theorem own_conv (w : World) (s : ByteArray) (n : Nat) (hn : s.size = n) (hs : n ≤ 9223372036854775807) : OwnG w.heap.size (Lib.bytesWorld w 5 s) (.slice (some ⟨w.heap.size, 0, none⟩) n (grownCap w n 0 5)) s.data.toList := by
  subst hn
  have hcm := grownCap_le_maxLen w s.size 0 5 (by unfold maxLen; omega)
  unfold maxLen at hcm
  have hge := grownCap_ge w s.size 0 5
  have hsz : (Lib.bytesCells w 5 s).size = grownCap w s.size 0 5 := by
    unfold Lib.bytesCells
    simp only [Array.size_append, Array.size_map, Array.size_replicate]
    have : s.data.size = s.size := rfl
    omega
  have hh := Lib.bytesWorld_at_new w 5 s
  refine Or.inr ⟨w.heap.size, _, by rw [str_len], Nat.le_refl _, by rw [Lib.bytesWorld_size]; omega, by rw [str_len]; exact hge, by omega, fun j hj => (bytesWorld_row w 5 s).at_ j hj, fun j hj => ⟨?_, ?_⟩⟩
  · rw [cell_of_row _ _ _ _ _ _ hh, Array.getElem?_eq_getElem (by omega)]
    rfl
  · exact frozen_marked hh (by omega)
theorem below_cells {B b : Nat} {a : World} (hb : B ≤ b) (vs : List Value) (o : Nat) (w : World) (h : Below B a w) : Below B a (w.setCells b o vs) := Go.below_setCells hb vs o w h
theorem setCells_size (b : Nat) : ∀ (vs : List Value) (o : Nat) (w : World), (w.setCells b o vs).heap.size = w.heap.size
  | [], _, _ => rfl
  | v :: r, o, w => by rw [World.setCells, setCells_size b r]; simp [World.setCell]

theorem run_append_g (base : Nat) (w : World) (ty : TypeId) (v : Value) (xs : List UInt8) (hown : OwnG base w v xs) (hbw : base ≤ w.heap.size) (q : Option Addr) (l : List UInt8) (m c : Nat) (hm : l.length = m) (hl : Bs w q l) (hnil : q = none → c = 0) (hsz : xs.length + m ≤ 70368744177664) :
    ∃ v' w', (Builtin.append_ #[29, 29] ty #[v, .slice q m c]).run Tryd.prog w = .ok v' w' ∧ OwnG base w' v' (xs ++ l) ∧ Below base w w' := by
  obtain ⟨i0, hi0, hz0, hz1, hzb⟩ := info_parts u8_parts
  rcases q with _ | ad
  · obtain rfl := hnil rfl
    have h0 : l.length = 0 := by
      rcases Nat.eq_zero_or_pos l.length with h' | h'
      · exact h'
      · obtain ⟨b, off, e, -⟩ := hl h'
        cases e
    obtain rfl : l = [] := List.eq_nil_of_length_eq_zero h0
    obtain rfl : 0 = m := hm
    refine ⟨v, w, ?_, by rw [List.append_nil]; exact hown, Below.refl _ _⟩
    rcases hown with ⟨rfl, -⟩ | ⟨g, cap, rfl, -, -, hnc, -⟩
    · simp [Builtin.append_, run_underlying (P := Tryd.prog) (w := w) Tryd.underlying29, sizeOf, typeInfo, hi0, Builtin.lenOf, Builtin.firstCells]
    · simp [Builtin.append_, run_underlying (P := Tryd.prog) (w := w) Tryd.underlying29, sizeOf, typeInfo, hi0, Builtin.lenOf, Builtin.firstCells, hnc, storeCells]
  · have hnews : ∀ j u, (bv l)[j]? = some u → w.cell? (ad.add j) = some u := fun j u hu => by
      obtain ⟨ad', e, -, hc⟩ := copy_src hl (by
        rcases Nat.eq_zero_or_pos (bv l).length with h' | h'
        · rw [List.eq_nil_of_length_eq_zero h'] at hu
          simp at hu
        · exact h')
      injection e with e
      subst e
      exact hc j u hu
    have hlb : (bv l).length = m * i0.size := by rw [bv_length, hz1, Nat.mul_one]; exact hm
    rcases hown with ⟨rfl, rfl⟩ | ⟨g, cap, rfl, hg, hlt, hnc, hcm, hcell, hf⟩
    · obtain ⟨v', w', hrun, ho', hgr, -⟩ := run_append_own (P := Tryd.prog) w base 29 ty 5 i0 (.int .u8 0) 1 1 Tryd.underlying29 hi0 hz0 hz1 hzb rfl (by decide) (.slice none 0 0) 0 [] (World.ownsRow_nil w base _ 1) ad m c (bv l) (by rw [bv_length, Nat.mul_one]; exact hm) hnews (bv_one _) (by unfold maxLen; omega) (by omega) hbw
      have ho2 : Own base w' v' ([] ++ l) := by
        unfold Own
        rw [List.nil_append, hm]
        simpa using ho'
      exact ⟨_, _, hrun, ho2.gen, ⟨hgr.os, hgr.tape, hgr.output, hgr.size, fun k hk => hgr.block k (by omega) (fun e => by cases e)⟩⟩
    · by_cases hroom : xs.length + m ≤ cap
      · have hrun := run_append_room_cells (P := Tryd.prog) w 29 ty 5 i0 Tryd.underlying29 hi0 g 0 xs.length cap ad m c (bv l) hlb hnews (bv_one _) hroom
          (fun j hj => by rw [bv_length] at hj; rw [hz1, Nat.zero_add, Nat.mul_one]; exact (hf (xs.length + j) (by omega)).1)
          (fun j hj => by rw [bv_length] at hj; rw [hz1, Nat.zero_add, Nat.mul_one]; exact (hf (xs.length + j) (by omega)).2)
        rw [hz1, Nat.zero_add, Nat.mul_one] at hrun
        have hlen : (xs ++ l).length = xs.length + m := by rw [List.length_append, hm]
        refine ⟨_, _, hrun, Or.inr ⟨g, cap, by rw [hlen], hg, by rw [setCells_size]; exact hlt, by rw [hlen]; exact hroom, hcm, fun j hj => ?_, fun j hj => ⟨?_, ?_⟩⟩, below_cells hg _ _ _ (Below.refl _ _)⟩
        · rw [hlen] at hj
          by_cases hjx : j < xs.length
          · rw [World.cell?_setCells_out g _ _ _ _ (fun _ _ => Or.inl hjx), List.getElem_append_left hjx]
            exact hcell j hjx
          · have h1 := World.cell?_setCells_in g (bv l) xs.length w (fun i hi => by rw [bv_length] at hi; exact (hf (xs.length + i) (by omega)).1) (j - xs.length) (by rw [bv_length]; omega)
            rw [show xs.length + (j - xs.length) = j by omega] at h1
            rw [h1, List.getElem_append_right (by omega)]
            simp [bv]
        · by_cases hjx : xs.length ≤ j ∧ j < xs.length + m
          · have h1 := World.cell?_setCells_in g (bv l) xs.length w (fun i hi => by rw [bv_length] at hi; exact (hf (xs.length + i) (by omega)).1) (j - xs.length) (by rw [bv_length]; omega)
            rw [show xs.length + (j - xs.length) = j by omega] at h1
            rw [h1]
            rfl
          · rw [World.cell?_setCells_out g _ _ _ _ (fun _ _ => by rw [bv_length, hm]; show j < xs.length ∨ xs.length + m ≤ j; omega)]
            exact (hf j hj).1
        · rw [World.frozen?_setCells]
          exact (hf j hj).2
      · obtain ⟨v', w', hrun, ho', hgr⟩ := run_append_arg_grows (P := Tryd.prog) w 29 ty 5 i0 (.int .u8 0) 1 1 Tryd.underlying29 hi0 hz0 hz1 hzb rfl (by decide) ⟨g, 0, none⟩ xs.length cap (bv xs) (by rw [bv_length, Nat.mul_one]) (fun j u hu => by
          have hj : j < xs.length := by
            rcases Nat.lt_or_ge j xs.length with h | h
            · exact h
            · rw [List.getElem?_eq_none (by rw [bv_length]; exact h)] at hu; cases hu
          have e := Option.some.inj ((bv_at xs j hj).symm.trans hu)
          subst e
          rw [Addr.add_lit, Nat.zero_add]
          exact hcell j hj) ad m c (bv l) (by rw [bv_length, Nat.mul_one]; exact hm) hnews (by omega) (by unfold maxLen; omega) (by omega)
        have ho2 : Own base w' v' (xs ++ l) := by
          have h2 : Own w.heap.size w' v' (xs ++ l) := by
            unfold Own
            rw [List.length_append, hm, bv_app]
            exact ho'
          refine ⟨h2.1, ?_⟩
          rcases h2.2 with ⟨e, h0⟩ | ⟨g, cap, cur, e, hg, hh⟩
          · exact Or.inl ⟨e, h0⟩
          · exact Or.inr ⟨g, cap, cur, e, Nat.le_trans hbw hg, hh⟩
        exact ⟨_, _, hrun, ho2.gen, ⟨hgr.os, hgr.tape, hgr.output, hgr.size, fun k hk => hgr.block k (by omega) (fun e => by cases e)⟩⟩
theorem wp_append_g {w0 w : World} {o : Oper} {a : Act} {K : Act → World → Prop} {Q : Exit → Act → World → Prop} (s x : Operand)
    (ho : o.op = .call { callee := .builtin .append, args := #[s, x], argTypes := #[29, 29] })
    (v : Value) (xs : List UInt8) (hs : a.eval s = v) (hown : OwnG w0.heap.size w v xs) (hb : Below w0.heap.size w0 w)
    (q : Option Addr) (l : List UInt8) (m c : Nat) (hx : a.eval x = .slice q m c) (hm : l.length = m) (hl : Bs w q l) (hnil : q = none → c = 0) (hsz : xs.length + m ≤ 70368744177664) (z : List UInt8) (hzz : z = xs ++ l)
    (h : ∀ v' w', OwnG w0.heap.size w' v' z → Below w0.heap.size w0 w' → K (a.put o.dst v') w') : o.wp Tryd.prog a w K Q := by
  subst hzz
  obtain ⟨v', w', hrun, h1, h2⟩ := run_append_g w0.heap.size w o.type v xs hown hb.size q l m c hm hl hnil hsz
  unfold Oper.wp execOp
  simp only [ho, resolve, invoke, builtin, Sem.run_bind, Sem.run_pure, Result.andThen_ok, List.map_toArray, List.map_cons, List.map_nil, hs, hx, hrun]
  exact h v' w' h1 (hb.trans h2)
theorem wpList_append_g {w0 w : World} {ops : Array Oper} {rest : List Oper} {o : Oper} {a : Act} {Q : Exit → Act → World → Prop} (hgd : o.guard = none) (s x : Operand)
    (ho : o.op = .call { callee := .builtin .append, args := #[s, x], argTypes := #[29, 29] })
    (v : Value) (xs : List UInt8) (hs : a.eval s = v) (hown : OwnG w0.heap.size w v xs) (hb : Below w0.heap.size w0 w)
    (q : Option Addr) (l : List UInt8) (m c : Nat) (hx : a.eval x = .slice q m c) (hm : l.length = m) (hl : Bs w q l) (hnil : q = none → c = 0) (hsz : xs.length + m ≤ 70368744177664) (z : List UInt8) (hzz : z = xs ++ l)
    (h : ∀ v' w', OwnG w0.heap.size w' v' z → Below w0.heap.size w0 w' → wpList Tryd.prog ops Q rest (a.put o.dst v') w') : wpList Tryd.prog ops Q (o :: rest) a w :=
  wpList_plain hgd fun K hK => wp_append_g s x ho v xs hs hown hb q l m c hx hm hl hnil hsz z hzz fun v' w' h1 h2 => hK _ _ (h v' w' h1 h2)
theorem step_append_g {w0 w : World} {ops : Array Oper} {o : Oper} {a : Act} {K : Act → World → Prop} {Q : Exit → Act → World → Prop} {E : Prop} (hgd : o.guard = none) (s x : Operand)
    (ho : o.op = .call { callee := .builtin .append, args := #[s, x], argTypes := #[29, 29] })
    (v : Value) (xs : List UInt8) (hs : a.eval s = v) (hown : OwnG w0.heap.size w v xs) (hb : Below w0.heap.size w0 w)
    (q : Option Addr) (l : List UInt8) (m c : Nat) (hx : a.eval x = .slice q m c) (hm : l.length = m) (hl : Bs w q l) (hnil : q = none → c = 0) (hsz : xs.length + m ≤ 70368744177664) (z : List UInt8) (hzz : z = xs ++ l)
    (h : ∀ v' w', OwnG w0.heap.size w' v' z → Below w0.heap.size w0 w' → K (a.put o.dst v') w') : if Region.wanted o (yielded ops a.tmps) = true then Oper.wp Tryd.prog o a w K Q else E := by
  rw [if_pos (by simp [Region.wanted, hgd])]
  exact wp_append_g s x ho v xs hs hown hb q l m c hx hm hl hnil hsz z hzz h

theorem strCells_bv (s : ByteArray) : Lib.strCells s = bv s.data.toList := rfl
/-- append of a text's bytes. -/
theorem wpList_append_str {w0 w : World} {ops : Array Oper} {rest : List Oper} {o : Oper} {a : Act} {Q : Exit → Act → World → Prop} (hgd : o.guard = none) (s x : Operand)
    (ho : o.op = .call { callee := .builtin .append, args := #[s, x], argTypes := #[29, 9] })
    (v : Value) (xs : List UInt8) (hs : a.eval s = v) (hown : Own w0.heap.size w v xs) (hb : Below w0.heap.size w0 w)
    (S : ByteArray) (hx : a.eval x = .string S) (hsz : xs.length + S.size ≤ 70368744177664)
    (h : ∀ v' w', Own w0.heap.size w' v' (xs ++ S.data.toList) → Below w0.heap.size w0 w' → wpList Tryd.prog ops Q rest (a.put o.dst v') w') : wpList Tryd.prog ops Q (o :: rest) a w := by
  obtain ⟨i0, hi0, hz0, hz1, hzb⟩ := info_parts u8_parts
  refine Lib.wpList_append_own_string w hgd s x 29 9 ho w0.heap.size 5 i0 Tryd.underlying29 Tryd.underlying9 hi0 hz0 hz1 hzb v xs.length (bv xs) hs hown S hx (by unfold maxLen; omega) (by omega) hb.size ?_
  intro v' w' h1 h2 _
  refine h v' w' ?_ (hb.grown h2 hb.size (own_base hown))
  unfold Own
  rw [List.length_append, str_len, bv_app, ← strCells_bv]
  exact h1
/-- A literal told as bytes. -/
theorem own_lit (w : World) (l : List UInt8) (n : Nat) (hn : l.length = n) (hs : n ≤ 9223372036854775807) : OwnG w.heap.size (w.alloc (.cells (bv l).toArray 5 (n, n + 1))) (.slice (some ⟨w.heap.size, 0, none⟩) n n) l := by
  subst hn
  have hh : (w.alloc (.cells (bv l).toArray 5 (l.length, l.length + 1))).heap[w.heap.size]? = some (.cells (bv l).toArray 5 (l.length, l.length + 1)) := by
    show (w.heap.push _)[w.heap.size]? = _
    simp
  refine Or.inr ⟨w.heap.size, l.length, rfl, Nat.le_refl _, by simp, Nat.le_refl _, hs, fun j hj => ?_, fun j hj => ⟨?_, frozen_marked hh hj⟩⟩
  · rw [cell_of_row _ _ _ _ _ _ hh]
    simp [bv, hj]
  · rw [cell_of_row _ _ _ _ _ _ hh]
    simp [bv, hj]
/-- append of a text's bytes to a row of the call's own, of whatever marks. -/
theorem run_append_gs (base : Nat) (w : World) (ty : TypeId) (v : Value) (xs : List UInt8) (hown : OwnG base w v xs) (hbw : base ≤ w.heap.size) (S : ByteArray) (hsz : xs.length + S.size ≤ 70368744177664) :
    ∃ v' w', (Builtin.append_ #[29, 9] ty #[v, .string S]).run Tryd.prog w = .ok v' w' ∧ OwnG base w' v' (xs ++ S.data.toList) ∧ Below base w w' := by
  obtain ⟨i0, hi0, hz0, hz1, hzb⟩ := info_parts u8_parts
  rcases hown with ⟨rfl, rfl⟩ | ⟨g, cap, rfl, hg, hlt, hnc, hcm, hcell, hf⟩
  · obtain ⟨v', w', hrun, ho', hgr, -⟩ := Lib.run_append_own_string (P := Tryd.prog) w base 29 9 ty 5 i0 Tryd.underlying29 Tryd.underlying9 hi0 hz0 hz1 hzb (.slice none 0 0) 0 [] (World.ownsRow_nil w base _ 1) S (by unfold maxLen; omega) (by omega) hbw
    have ho2 : Own base w' v' ([] ++ S.data.toList) := by
      unfold Own
      rw [List.nil_append, str_len, ← strCells_bv]
      simpa using ho'
    exact ⟨_, _, hrun, ho2.gen, ⟨hgr.os, hgr.tape, hgr.output, hgr.size, fun k hk => hgr.block k (by omega) (fun e => by cases e)⟩⟩
  · by_cases hroom : xs.length + S.size ≤ cap
    · have hfc := Lib.run_firstCells_string (P := Tryd.prog) w 1 S
      have hst := run_storeCells_cells (P := Tryd.prog) g xs.length (Lib.strCells S) 0 w
        (fun j hj => by rw [Lib.strCells_length] at hj; exact (hf (xs.length + 0 + j) (by omega)).1)
        (fun j hj => by rw [Lib.strCells_length] at hj; exact (hf (xs.length + 0 + j) (by omega)).2) (Lib.strCells_oneCell S)
      simp only [Nat.add_zero] at hst
      have hrun : (Builtin.append_ #[29, 9] ty #[.slice (some ⟨g, 0, none⟩) xs.length cap, .string S]).run Tryd.prog w = .ok (.slice (some ⟨g, 0, none⟩) (xs.length + S.size) cap) (w.setCells g xs.length (Lib.strCells S)) := by
        simp [Builtin.append_, run_underlying (P := Tryd.prog) (w := w) Tryd.underlying29, sizeOf, typeInfo, hi0, hz1, Builtin.lenOf, hroom, hfc, Addr.add_lit, hst]
      have hlen : (xs ++ S.data.toList).length = xs.length + S.size := by rw [List.length_append, str_len]
      refine ⟨_, _, hrun, Or.inr ⟨g, cap, by rw [hlen], hg, by rw [setCells_size]; exact hlt, by rw [hlen]; exact hroom, hcm, fun j hj => ?_, fun j hj => ⟨?_, ?_⟩⟩, below_cells hg _ _ _ (Below.refl _ _)⟩
      · rw [hlen] at hj
        by_cases hjx : j < xs.length
        · rw [World.cell?_setCells_out g _ _ _ _ (fun _ _ => Or.inl hjx), List.getElem_append_left hjx]
          exact hcell j hjx
        · have h1 := World.cell?_setCells_in g (Lib.strCells S) xs.length w (fun i hi => by rw [Lib.strCells_length] at hi; exact (hf (xs.length + i) (by omega)).1) (j - xs.length) (by rw [Lib.strCells_length]; omega)
          rw [show xs.length + (j - xs.length) = j by omega] at h1
          rw [h1, List.getElem_append_right (by omega)]
          simp [Lib.strCells]
      · by_cases hjx : xs.length ≤ j ∧ j < xs.length + S.size
        · have h1 := World.cell?_setCells_in g (Lib.strCells S) xs.length w (fun i hi => by rw [Lib.strCells_length] at hi; exact (hf (xs.length + i) (by omega)).1) (j - xs.length) (by rw [Lib.strCells_length]; omega)
          rw [show xs.length + (j - xs.length) = j by omega] at h1
          rw [h1]
          rfl
        · rw [World.cell?_setCells_out g _ _ _ _ (fun _ _ => by rw [Lib.strCells_length]; show j < xs.length ∨ xs.length + S.size ≤ j; omega)]
          exact (hf j hj).1
      · rw [World.frozen?_setCells]
        exact (hf j hj).2
    · have hrun := Lib.run_append_grow_string (P := Tryd.prog) w 29 9 ty 5 i0 (.int .u8 0) Tryd.underlying29 Tryd.underlying9 hi0 hz0 ⟨g, 0, none⟩ xs.length cap (bv xs) (by rw [bv_length, hz1, Nat.mul_one]) (fun j u hu => by
        have hj : j < xs.length := by
          rcases Nat.lt_or_ge j xs.length with h | h
          · exact h
          · rw [List.getElem?_eq_none (by rw [bv_length]; exact h)] at hu; cases hu
        have e := Option.some.inj ((bv_at xs j hj).symm.trans hu)
        subst e
        rw [Addr.add_lit, Nat.zero_add]
        exact hcell j hj) S (by omega) (by omega) (by rw [hzb]; exact growslice_fits (by omega) (by omega))
      have hge := grownCap_ge w (xs.length + S.size) cap 5
      have hcm2 := grownCap_le_maxLen w (xs.length + S.size) cap 5 (by unfold maxLen; omega)
      have hlen : (xs ++ S.data.toList).length = xs.length + S.size := by rw [List.length_append, str_len]
      have ho2 : Own base (w.drew.alloc (.cells ((bv xs).toArray ++ (Lib.strCells S).toArray ++ Builtin.zeroCells (Value.int .u8 0).cells (grownCap w (xs.length + S.size) cap 5 - (xs.length + S.size))) 5)) (.slice (some ⟨w.heap.size, 0, none⟩) (xs.length + S.size) (grownCap w (xs.length + S.size) cap 5)) (xs ++ S.data.toList) := by
        unfold Own
        rw [hlen, bv_app]
        refine ⟨by rw [List.length_append, bv_length, bv_length, str_len, Nat.mul_one], .inr ⟨w.heap.size, _, _, rfl, hbw, heap_alloc_new w.drew _, hge, hcm2, ?_, ?_⟩⟩
        · simp only [Array.size_append, List.size_toArray, bv_length, Lib.strCells_length, Builtin.zeroCells, Nat.mul_one]
          simp [Value.cells]
          omega
        · simp only [Array.toList_append, Nat.mul_one, strCells_bv]
          rw [List.take_left' (by rw [List.length_append, bv_length, bv_length, str_len])]
      exact ⟨_, _, hrun, ho2.gen, ⟨rfl, rfl, rfl, by simp, fun k hk => heap_alloc_old w.drew _ (by show k < w.heap.size; omega)⟩⟩
theorem wpList_append_gs {w0 w : World} {ops : Array Oper} {rest : List Oper} {o : Oper} {a : Act} {Q : Exit → Act → World → Prop} (hgd : o.guard = none) (s x : Operand)
    (ho : o.op = .call { callee := .builtin .append, args := #[s, x], argTypes := #[29, 9] })
    (v : Value) (xs : List UInt8) (hs : a.eval s = v) (hown : OwnG w0.heap.size w v xs) (hb : Below w0.heap.size w0 w)
    (S : ByteArray) (hx : a.eval x = .string S) (hsz : xs.length + S.size ≤ 70368744177664)
    (h : ∀ v' w', OwnG w0.heap.size w' v' (xs ++ S.data.toList) → Below w0.heap.size w0 w' → wpList Tryd.prog ops Q rest (a.put o.dst v') w') : wpList Tryd.prog ops Q (o :: rest) a w := by
  refine wpList_plain hgd fun K hK => ?_
  obtain ⟨v', w', hr, h1, h2⟩ := run_append_gs w0.heap.size w o.type v xs hown hb.size S hsz
  unfold Oper.wp execOp
  simp only [ho, resolve, invoke, builtin, Sem.run_bind, Sem.run_pure, Result.andThen_ok, List.map_toArray, List.map_cons, List.map_nil, hs, hx, hr]
  exact hK _ _ (h v' w' h1 (hb.trans h2))

/-- Texts as cells. -/
def sv (L : List (List UInt8)) : List Value := L.map fun l => .string ⟨l.toArray⟩
theorem sv_length (L : List (List UInt8)) : (sv L).length = L.length := by simp [sv]
theorem sv_app (L R : List (List UInt8)) : sv (L ++ R) = sv L ++ sv R := by simp [sv]
theorem sv_at (L : List (List UInt8)) (j : Nat) (h : j < L.length) : (sv L)[j]? = some (.string ⟨L[j].toArray⟩) := by simp [sv, h]
/-- A row of texts that came in. -/
def Ss (w : World) (q : Option Addr) (L : List (List UInt8)) : Prop :=
  0 < L.length → ∃ b off, q = some ⟨b, off, none⟩ ∧ b < w.heap.size ∧ ∀ j (h : j < L.length), w.cell? ⟨b, off + j, none⟩ = some (.string ⟨L[j].toArray⟩)
theorem Ss.keep {w w' : World} {q : Option Addr} {L : List (List UInt8)} (h : Ss w q L) (hb : Below w.heap.size w w') : Ss w' q L := by
  intro h0
  obtain ⟨b, off, hp, hlt, hc⟩ := h h0
  exact ⟨b, off, hp, Nat.lt_of_lt_of_le hlt hb.size, fun j hj => by rw [hb.cell (p := ⟨b, off + j, none⟩) hlt]; exact hc j hj⟩
theorem Ss.take {w : World} {q : Option Addr} {L : List (List UInt8)} (h : Ss w q L) (n : Nat) : Ss w q (L.take n) := by
  intro h0
  rw [List.length_take] at h0
  obtain ⟨b, off, hp, hlt, hc⟩ := h (by omega)
  refine ⟨b, off, hp, hlt, fun j hj => ?_⟩
  rw [List.length_take] at hj
  rw [hc j (by omega)]
  simp
/-- A value that is a row of bytes. -/
def Ok (w : World) (v : Value) (l : List UInt8) : Prop := ∃ p c, v = .slice p l.length c ∧ Bs w p l ∧ l.length ≤ c ∧ c ≤ 9223372036854775807 ∧ (p = none → c = 0)
theorem Ok.keep {w w' : World} {v : Value} {l : List UInt8} (h : Ok w v l) (hb : Below w.heap.size w w') : Ok w' v l := by
  obtain ⟨p, c, hv, hB, h1⟩ := h
  exact ⟨p, c, hv, hB.keep hb, h1⟩
theorem Ans.ok {base : Nat} {w : World} {v : Value} {l : List UInt8} (h : Ans base w v l) : Ok w v l := by
  obtain ⟨p, c, hv, hB, -, h1⟩ := h
  exact ⟨p, c, hv, hB, h1⟩
/-- A row of rows that came in. -/
def Rs (w : World) (q : Option Addr) (L : List (List UInt8)) : Prop :=
  0 < L.length → ∃ b off, q = some ⟨b, off, none⟩ ∧ b < w.heap.size ∧ ∀ j (h : j < L.length), ∃ v, w.cell? ⟨b, off + j, none⟩ = some v ∧ Ok w v L[j]
theorem Rs.keep {w w' : World} {q : Option Addr} {L : List (List UInt8)} (h : Rs w q L) (hb : Below w.heap.size w w') : Rs w' q L := by
  intro h0
  obtain ⟨b, off, hp, hlt, hc⟩ := h h0
  refine ⟨b, off, hp, Nat.lt_of_lt_of_le hlt hb.size, fun j hj => ?_⟩
  obtain ⟨v, hv, ho⟩ := hc j hj
  exact ⟨v, by rw [hb.cell (p := ⟨b, off + j, none⟩) hlt]; exact hv, ho.keep hb⟩

theorem str_parts : (Tryd.prog.info? 9).map (fun i => (i.zero, i.size, i.bytes)) = some (some (.string ByteArray.empty), 1, 16) := by kernel_rfl
theorem row_parts : (Tryd.prog.info? 29).map (fun i => (i.zero, i.size, i.bytes)) = some (some (.slice none 0 0), 1, 24) := by kernel_rfl
theorem sv_one (L : List (List UInt8)) : ∀ u ∈ sv L, u.oneCell' = true := by
  intro u hu
  obtain ⟨c, _, rfl⟩ := List.mem_map.1 hu
  rfl

/-- A row of texts of the call's own. -/
def OwnS (base : Nat) (w : World) (v : Value) (L : List (List UInt8)) : Prop := w.ownsRow base 9 1 v L.length (sv L)
theorem OwnS.new (w : World) : OwnS w.heap.size (w.alloc (.cells #[] 9)) (.slice (some ⟨w.heap.size, 0, none⟩) 0 0) [] :=
  World.ownsRow_lit w #[] 0 (Nat.le_refl _) (by simp [maxLen]) rfl
theorem OwnS.ss {base : Nat} {w : World} {v : Value} {L : List (List UInt8)} (h : OwnS base w v L) : ∃ q c, v = .slice q L.length c ∧ Ss w q L ∧ L.length ≤ c ∧ c ≤ 9223372036854775807 ∧ (q = none → c = 0) := by
  rcases h.2 with ⟨rfl, h0⟩ | ⟨g, cap, cur, rfl, hgb, hh, hc, hm, hsz, htake⟩
  · obtain rfl : L = [] := List.eq_nil_of_length_eq_zero h0
    exact ⟨none, 0, rfl, fun h => absurd h (by simp), by simp, by omega, fun _ => rfl⟩
  · unfold maxLen at hm
    refine ⟨_, cap, rfl, fun h0 => ⟨g, 0, rfl, ?_, fun j hj => ?_⟩, hc, by omega, fun h => by cases h⟩
    · rcases Nat.lt_or_ge g w.heap.size with h' | h'
      · exact h'
      · rw [Array.getElem?_eq_none h'] at hh; cases hh
    · rw [Nat.zero_add, World.ownsRow.cellAt h j (by omega), sv_at L j hj]
theorem wpList_append_s {w0 w : World} {ops : Array Oper} {rest : List Oper} {o : Oper} {a : Act} {Q : Exit → Act → World → Prop} (hgd : o.guard = none) (s x : Operand)
    (ho : o.op = .call { callee := .builtin .append, args := #[s, x], argTypes := #[22, 22] })
    (v : Value) (L : List (List UInt8)) (hs : a.eval s = v) (hown : OwnS w0.heap.size w v L) (hb : Below w0.heap.size w0 w)
    (g : Nat) (S : ByteArray) (l : List UInt8) (c : Nat) (hx : a.eval x = .slice (some ⟨g, 0, none⟩) 1 c) (hl : S.data.toList = l) (hg : w.cell? ⟨g, 0, none⟩ = some (.string S)) (hsz : L.length ≤ 1048576)
    (h : ∀ v' w', OwnS w0.heap.size w' v' (L ++ [l]) → Below w0.heap.size w0 w' → wpList Tryd.prog ops Q rest (a.put o.dst v') w') : wpList Tryd.prog ops Q (o :: rest) a w := by
  obtain ⟨i0, hi0, hz0, hz1, hzb⟩ := info_parts str_parts
  refine wpList_append_own w hgd s x 22 ho w0.heap.size 9 i0 (.string ByteArray.empty) 1 16 Tryd.underlying22 hi0 hz0 hz1 hzb rfl (by decide) v L.length (sv L) hs hown ⟨g, 0, none⟩ 1 c [.string S] hx rfl (fun j u hu => ?_) (fun u hu => ?_) (by unfold maxLen; omega) (by omega) hb.size ?_
  · match j, hu with
    | 0, hu =>
      simp at hu
      subst hu
      rw [Addr.add_lit]
      exact hg
    | j + 1, hu => simp at hu
  · simp at hu
    subst hu
    rfl
  · intro v' w' h1 h2 _
    refine h v' w' ?_ (hb.grown h2 hb.size (own_base hown))
    unfold OwnS
    rw [List.length_append, sv_app]
    have e : sv [l] = [.string S] := by
      subst hl
      rfl
    rw [e]
    exact h1

/-- A row of rows of the call's own: each of them lies in another block. -/
def OwnR (base : Nat) (w : World) (v : Value) (L : List (List UInt8)) : Prop :=
  ∃ vs : List Value, w.ownsRow base 29 1 v L.length vs ∧ ∀ j (h : j < L.length), ∃ u, vs[j]? = some u ∧ Ok w u L[j] ∧ ∀ p n c, u = .slice (some p) n c → 0 < n → v.ownBlock ≠ some p.block
theorem OwnR.new (w : World) : OwnR w.heap.size (w.alloc (.cells #[] 29)) (.slice (some ⟨w.heap.size, 0, none⟩) 0 0) [] :=
  ⟨[], World.ownsRow_lit w #[] 0 (Nat.le_refl _) (by simp [maxLen]) rfl, fun j hj => absurd hj (by simp)⟩
theorem OwnR.rs {base : Nat} {w : World} {v : Value} {L : List (List UInt8)} (h : OwnR base w v L) : ∃ q c, v = .slice q L.length c ∧ Rs w q L ∧ L.length ≤ c ∧ c ≤ 9223372036854775807 ∧ (q = none → c = 0) := by
  obtain ⟨vs, h, hvs⟩ := h
  rcases h.2 with ⟨rfl, h0⟩ | ⟨g, cap, cur, rfl, hgb, hh, hc, hm, hsz, htake⟩
  · obtain rfl : L = [] := List.eq_nil_of_length_eq_zero h0
    exact ⟨none, 0, rfl, fun h => absurd h (by simp), by simp, by omega, fun _ => rfl⟩
  · unfold maxLen at hm
    refine ⟨_, cap, rfl, fun h0 => ⟨g, 0, rfl, ?_, fun j hj => ?_⟩, hc, by omega, fun h => by cases h⟩
    · rcases Nat.lt_or_ge g w.heap.size with h' | h'
      · exact h'
      · rw [Array.getElem?_eq_none h'] at hh; cases hh
    · obtain ⟨u, hu, hok, -⟩ := hvs j hj
      exact ⟨u, by rw [Nat.zero_add, World.ownsRow.cellAt h j (by omega)]; exact hu, hok⟩
theorem owns_keep {base size n : Nat} {e : TypeId} {w w' : World} {v : Value} {xs : List Value} (h : w.ownsRow base e size v n xs) (hb : Below w.heap.size w w') : w'.ownsRow base e size v n xs := by
  refine ⟨h.1, ?_⟩
  rcases h.2 with ⟨e, h0⟩ | ⟨g, cap, cur, e, hg, hh, h1, h2, h3, h4⟩
  · exact Or.inl ⟨e, h0⟩
  · have hlt : g < w.heap.size := by
      rcases Nat.lt_or_ge g w.heap.size with h' | h'
      · exact h'
      · rw [Array.getElem?_eq_none h'] at hh; cases hh
    exact Or.inr ⟨g, cap, cur, e, hg, by rw [hb.block g hlt]; exact hh, h1, h2, h3, h4⟩
theorem OwnR.keep {base : Nat} {w w' : World} {v : Value} {L : List (List UInt8)} (h : OwnR base w v L) (hb : Below w.heap.size w w') : OwnR base w' v L := by
  obtain ⟨vs, h, hvs⟩ := h
  refine ⟨vs, owns_keep h hb, fun j hj => ?_⟩
  obtain ⟨u, hu, hok, ha⟩ := hvs j hj
  exact ⟨u, hu, hok.keep hb, ha⟩
theorem OwnR.lt {base : Nat} {w : World} {v : Value} {L : List (List UInt8)} (h : OwnR base w v L) : ∀ k, v.ownBlock = some k → base ≤ k ∧ k < w.heap.size := by
  obtain ⟨vs, h, -⟩ := h
  exact h.lt
theorem OwnS.keep {base : Nat} {w w' : World} {v : Value} {L : List (List UInt8)} (h : OwnS base w v L) (hb : Below w.heap.size w w') : OwnS base w' v L := owns_keep h hb
/-- An answer of a call that began when the row was there lies apart from it. -/
theorem Ans.apart {base : Nat} {w : World} {u v : Value} {l : List UInt8} (h : Ans base w u l) (hv : ∀ k, v.ownBlock = some k → k < base) : ∀ p n c, u = .slice (some p) n c → 0 < n → v.ownBlock ≠ some p.block := by
  intro p n c hu _ he
  obtain ⟨q, c', hq, -, hb, -⟩ := h
  rw [hu] at hq
  injection hq with e1 e2 e3
  have h1 := hb p e1.symm
  have h2 := hv _ he
  omega
theorem Ok.grown {w w' : World} {u : Value} {l : List UInt8} {row : Option Nat} (h : Ok w u l) (hg : w.grownBy w' row) (ha : ∀ p n c, u = .slice (some p) n c → 0 < n → row ≠ some p.block) : Ok w' u l := by
  obtain ⟨p, c, hv, hB, h1⟩ := h
  refine ⟨p, c, hv, fun h0 => ?_, h1⟩
  obtain ⟨b, off, hp, hlt, hc⟩ := hB h0
  subst hp
  have hne : some b ≠ row := fun e => ha ⟨b, off, none⟩ l.length c hv h0 e.symm
  refine ⟨b, off, rfl, Nat.lt_of_lt_of_le hlt hg.size, fun j hj => ?_⟩
  rw [World.cell?_of_block (a := ⟨b, off + j, none⟩) (hg.block b hlt hne)]
  exact hc j hj
/-- Rows laid in a block of their own, to be appended or to be a row of rows. -/
def Laid (w : World) (g : Nat) (us : List Value) : Prop := w.heap[g]? = some (.cells us.toArray 29 (0, 0))
theorem Ok.one {w : World} {u : Value} {l : List UInt8} (h : Ok w u l) : u.oneCell' = true := by
  obtain ⟨p, c, rfl, -⟩ := h
  rfl
theorem Ans.form {base : Nat} {w : World} {v : Value} {l : List UInt8} (h : Ans base w v l) : ∃ p c, v = .slice p l.length c := by
  obtain ⟨p, c, h, -⟩ := h
  exact ⟨p, c, h⟩
theorem one_row {w : World} {v x : Value} {B : List UInt8} (h : Ok w x B) (ha : ∀ p n c, x = .slice (some p) n c → 0 < n → v.ownBlock ≠ some p.block) :
    ∀ j (h : j < [B].length), ∃ u, [x][j]? = some u ∧ Ok w u [B][j] ∧ ∀ p n c, u = .slice (some p) n c → 0 < n → v.ownBlock ≠ some p.block := by
  intro j hj
  match j, hj with
  | 0, _ => exact ⟨x, rfl, h, ha⟩
  | j + 1, hj => simp at hj
theorem two_rows {w : World} {v x y : Value} {B C : List UInt8} (h : Ok w x B) (ha : ∀ p n c, x = .slice (some p) n c → 0 < n → v.ownBlock ≠ some p.block)
    (h' : Ok w y C) (ha' : ∀ p n c, y = .slice (some p) n c → 0 < n → v.ownBlock ≠ some p.block) :
    ∀ j (h : j < [B, C].length), ∃ u, [x, y][j]? = some u ∧ Ok w u [B, C][j] ∧ ∀ p n c, u = .slice (some p) n c → 0 < n → v.ownBlock ≠ some p.block := by
  intro j hj
  match j, hj with
  | 0, _ => exact ⟨x, rfl, h, ha⟩
  | 1, _ => exact ⟨y, rfl, h', ha'⟩
  | j + 2, hj => simp at hj; omega
theorem one_cells {w : World} {x : Value} {B : List UInt8} (h : Ok w x B) : ∀ u ∈ [x], u.oneCell' = true := by
  intro u hu
  simp at hu
  subst hu
  exact h.one
theorem two_cells {w : World} {x y : Value} {B C : List UInt8} (h : Ok w x B) (h' : Ok w y C) : ∀ u ∈ [x, y], u.oneCell' = true := by
  intro u hu
  simp at hu
  rcases hu with rfl | rfl
  · exact h.one
  · exact h'.one
/-- One row, or two, laid in a block. -/
theorem laid_new (w : World) (us : List Value) : Laid (w.alloc (.cells us.toArray 29)) w.heap.size us := by
  unfold Laid
  show (w.heap.push _)[w.heap.size]? = _
  simp

theorem elem_u8 : Tryd.prog.underlying 29 = some (.slice (Tryd.prog.elem 29)) := by kernel_rfl
theorem size_elem (w : World) : (Go.sizeOf (Tryd.prog.elem 29)).run Tryd.prog w = .ok 1 w := by kernel_rfl
/-- Where a part of a row begins. -/
def partAt (p : Option Addr) (c lo : Nat) : Option Addr := if c = lo then p else p.map (·.add (lo * 1))
theorem sl_lh (p : Option Addr) (n c lo hi : Nat) (h0 : lo ≤ hi) (h1 : hi ≤ c) (W : World) :
    (Instr.slice 29 (.slice p n c) (some (.int .i64 (lo : Int))) (some (.int .i64 (hi : Int))) none).run Tryd.prog W = .ok (.slice (partAt p c lo) (hi - lo) (c - lo)) W := by
  rw [run_slice_lh (P := Tryd.prog) W 29 p n c elem_u8 .i64 .i64 (lo : Int) (hi : Int) (by omega) (by omega) (by omega), size_elem]
  simp [Result.andThen, sliced, partAt]
theorem sl_h (p : Option Addr) (n c hi : Nat) (h1 : hi ≤ c) (W : World) :
    (Instr.slice 29 (.slice p n c) none (some (.int .i64 (hi : Int))) none).run Tryd.prog W = .ok (.slice (partAt p c 0) hi c) W := by
  rw [run_slice_h (P := Tryd.prog) W 29 p n c elem_u8 .i64 (hi : Int) (by omega) (by omega), size_elem]
  simp [Result.andThen, sliced, partAt]
theorem sl_l (p : Option Addr) (n c lo : Nat) (h0 : lo ≤ n) (W : World) :
    (Instr.slice 29 (.slice p n c) (some (.int .i64 (lo : Int))) none none).run Tryd.prog W = .ok (.slice (partAt p c lo) (n - lo) (c - lo)) W := by
  rw [run_slice_l (P := Tryd.prog) W 29 p n c elem_u8 .i64 (lo : Int) (by omega) (by omega), size_elem]
  simp [Result.andThen, sliced, partAt]
theorem partAt_bs {w : World} {p : Option Addr} {l : List UInt8} {c : Nat} (h : Bs w p l) (hc : l.length ≤ c) (lo hi : Nat) (h1 : hi ≤ l.length) : Bs w (partAt p c lo) ((l.drop lo).take (hi - lo)) := by
  intro h0
  rw [List.length_take, List.length_drop] at h0
  obtain ⟨b, off, rfl, hlt, hcell⟩ := h (by omega)
  refine ⟨b, off + lo, ?_, hlt, fun j hj => ?_⟩
  · unfold partAt
    rw [if_neg (by omega)]
    simp [Addr.add]
  · rw [List.length_take, List.length_drop] at hj
    have := hcell (lo + j) (by omega)
    rw [Nat.add_assoc, this]
    simp
theorem partAt_none {p : Option Addr} {c lo : Nat} (h : p = none → c = 0) (hq : partAt p c lo = none) : c - lo = 0 := by
  unfold partAt at hq
  split at hq
  · omega
  · cases p with
    | none => have := h rfl; omega
    | some a => cases hq

theorem elem_str : Tryd.prog.underlying 22 = some (.slice (Tryd.prog.elem 22)) := by kernel_rfl
theorem size_str (w : World) : (Go.sizeOf (Tryd.prog.elem 22)).run Tryd.prog w = .ok 1 w := by kernel_rfl
theorem sl_hs (p : Option Addr) (n c hi : Nat) (h1 : hi ≤ c) (W : World) :
    (Instr.slice 22 (.slice p n c) none (some (.int .i64 (hi : Int))) none).run Tryd.prog W = .ok (.slice (partAt p c 0) hi c) W := by
  rw [run_slice_h (P := Tryd.prog) W 22 p n c elem_str .i64 (hi : Int) (by omega) (by omega), size_str]
  simp [Result.andThen, sliced, partAt]
theorem partAt_ss {w : World} {p : Option Addr} {L : List (List UInt8)} {c : Nat} (h : Ss w p L) (hc : L.length ≤ c) (hi : Nat) : Ss w (partAt p c 0) (L.take hi) := by
  intro h0
  obtain ⟨b, off, e, hlt, hcell⟩ := h.take hi h0
  refine ⟨b, off, ?_, hlt, hcell⟩
  subst e
  unfold partAt
  split
  · rfl
  · simp [Addr.add]
/-- The reply that a row begins with, and what is behind it; or none. -/
def TakeP (l : List UInt8) (w : World) (e : Ending) (w' : World) : Prop :=
  Below w.heap.size w w' ∧ ((∃ x r v u, l = x ++ r ∧ Skips 1 l r ∧ e = .returned (.tuple #[v, u, .bool true]) ∧ Ans w.heap.size w' v x ∧ Ans w.heap.size w' u r) ∨
    ((∀ r, ¬ Skips 1 l r) ∧ ∃ v u, e = .returned (.tuple #[v, u, .bool false]) ∧ Ans w.heap.size w' v [] ∧ Ans w.heap.size w' u []))

end Go.Proofs.YtodpocciimbjbaaDoor.ReplyT
