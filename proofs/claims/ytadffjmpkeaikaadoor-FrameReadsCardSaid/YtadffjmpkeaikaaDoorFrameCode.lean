/-
  The landed code of layer 6: the reader.
-/
import Derived.Test.YtadffjmpkeaikaaDoorFrameNext
import Derived.Test.YtadffjmpkeaikaaDoorFrameStart
namespace Go.Proofs.YtadffjmpkeaikaaDoor.FrameM
open Go.RowKit Kit BytesIn ReplyMath ReplyT NumMath NumL FrameMath FrameT
set_option linter.unusedVariables false
set_option maxRecDepth 100000

theorem setCells_other {b k : Nat} (h : k ≠ b) : ∀ (vs : List Value) (o : Nat) (w : World), (w.setCells b o vs).heap[k]? = w.heap[k]?
  | [], _, _ => rfl
  | v :: r, o, w => by rw [World.setCells, setCells_other h r]; exact Below.heap_setCell w ⟨b, o, none⟩ v k h
/-- A row of bytes of a reader's own, in a block of F that is not g: wherever it begins. -/
def Rest (w : World) (F : Nat → Prop) (g : Nat) (v : Value) (l : List UInt8) : Prop :=
  (v = .slice none 0 0 ∧ l = []) ∨ ∃ b off cap, v = .slice (some ⟨b, off, none⟩) l.length cap ∧ F b ∧ b ≠ g ∧ b < w.heap.size ∧ l.length ≤ cap ∧ cap ≤ 9223372036854775807 ∧
    (∀ j (h : j < l.length), w.cell? ⟨b, off + j, none⟩ = some (.int .u8 (l[j].toNat : Int))) ∧ (∀ j, j < cap → (w.cell? ⟨b, off + j, none⟩).isSome = true ∧ w.frozen? ⟨b, off + j, none⟩ = false)
/-- A reader: its own blocks are F; l is what it has; bad: that is none. -/
def Rd (w : World) (F : Nat → Prop) (v : Value) (l : List UInt8) (bad : Bool) : Prop :=
  ∃ g r, v = .pointer (some ⟨g, 0, none⟩) ∧ F g ∧ w.cell? ⟨g, 0, none⟩ = some r ∧ w.frozen? ⟨g, 0, none⟩ = false ∧ Rest w F g r l ∧ (∀ k, F k → k < w.heap.size) ∧ (bad = true → nextL l = .bad)
theorem Rest.keep {w w' : World} {F : Nat → Prop} {g : Nat} {v : Value} {l : List UInt8} (h : Rest w F g v l) (hk : ∀ k, F k → w'.heap[k]? = w.heap[k]?) (hs : w.heap.size ≤ w'.heap.size) : Rest w' F g v l := by
  rcases h with h | ⟨b, off, cap, rfl, hF, hbg, hlt, hc, hm, hcell, hf⟩
  · exact Or.inl h
  · refine Or.inr ⟨b, off, cap, rfl, hF, hbg, by omega, hc, hm, fun j hj => ?_, fun j hj => ?_⟩
    · rw [World.cell?_of_block (a := ⟨b, off + j, none⟩) (hk b hF)]; exact hcell j hj
    · rw [World.cell?_of_block (a := ⟨b, off + j, none⟩) (hk b hF), World.frozen?_of_block (a := ⟨b, off + j, none⟩) (hk b hF)]; exact hf j hj
theorem rd_keep {w w' : World} {F : Nat → Prop} {v : Value} {l : List UInt8} {bad : Bool} (h : Rd w F v l bad) (hk : ∀ k, F k → w'.heap[k]? = w.heap[k]?) (hs : w.heap.size ≤ w'.heap.size) : Rd w' F v l bad := by
  obtain ⟨g, r, hv, hg, hc, hf, hr, hl, hb⟩ := h
  refine ⟨g, r, hv, hg, ?_, ?_, hr.keep hk hs, fun k hk' => Nat.lt_of_lt_of_le (hl k hk') hs, hb⟩
  · rw [World.cell?_of_block (a := ⟨g, 0, none⟩) (hk g hg)]; exact hc
  · rw [World.frozen?_of_block (a := ⟨g, 0, none⟩) (hk g hg)]; exact hf
theorem rd_lt {w : World} {F : Nat → Prop} {v : Value} {l : List UInt8} {bad : Bool} (h : Rd w F v l bad) : ∀ k, F k → k < w.heap.size := by
  obtain ⟨g, r, hv, hg, hc, hf, hr, hl, hb⟩ := h
  exact hl

theorem alloc_at (w : World) (v : Value) (t : TypeId) : (w.alloc (.cells #[v] t)).heap[w.heap.size]? = some (.cells #[v] t (0, 0)) := heap_alloc_last w (.cells #[v] t)
set_option maxHeartbeats 1000000 in
theorem new_rd (w : World) (hg : Gd w) : Calls Tryd.prog 17 #[] w fun e w' => ∃ a F, e = .returned (.pointer (some a)) ∧ Rd w' F (.pointer (some a)) [] false ∧ (∀ k, F k → w.heap.size ≤ k) ∧ Below w.heap.size w w' := by
  clear hg
  go_enter Tryd.func17, Tryd.ntmps17
  go_wp2_with fail
  go_ret
  refine ⟨⟨w.heap.size, 0, none⟩, fun k => k = w.heap.size, rfl, ⟨w.heap.size, .slice none 0 0, rfl, rfl, ?_, ?_, Or.inl ⟨rfl, rfl⟩, fun k hk => ?_, fun h => by cases h⟩, fun k hk => ?_, below1 _ _⟩
  · rw [cell_of_row _ _ _ _ _ _ (heap_alloc_last w _)]
    rfl
  · exact Go.Lib.frozen_of_heap (heap_alloc_last w _) 0
  · have hk : k = w.heap.size := hk
    rw [hk]
    simp
  · have hk : k = w.heap.size := hk
    omega
theorem new_some (w : World) (hg : Gd w) : Calls Tryd.prog 17 #[] w fun e w' => ∃ a, e = .returned (.pointer (some a)) ∧ Below w.heap.size w w' := by
  refine (new_rd w hg).mono ?_
  rintro e w' ⟨a, F, he, -, -, hb⟩
  exact ⟨a, he, hb⟩

set_option maxHeartbeats 1000000 in
theorem left_rd (w : World) (F : Nat → Prop) (a : Addr) (l : List UInt8) (bad : Bool) (h : Rd w F (.pointer (some a)) l bad) (hg : Gd w) :
    Calls Tryd.prog 22 #[.pointer (some a)] w fun e w' => e = .returned (.int .i64 (l.length : Int)) ∧ Below w.heap.size w w' := by
  obtain ⟨g, r, hv, hg', hc, hf, hr, hl, hb⟩ := h
  injection hv with hv
  injection hv with hv
  subst hv
  have hr2 : ∃ q c, r = .slice q l.length c := by
    rcases hr with ⟨rfl, rfl⟩ | ⟨b, off, cap, rfl, -⟩
    · exact ⟨_, _, rfl⟩
    · exact ⟨_, _, rfl⟩
  obtain ⟨q, c, rfl⟩ := hr2
  clear hr hf hl hb hg hg'
  go_enter Tryd.func22, Tryd.ntmps22
  go_wp2_with fail
  go_ret
  exact ⟨rfl, Below.refl _ _⟩

/-- A row that the call owns is a reader's, its block put to the reader's. -/
theorem own_rest {w0 w : World} {F : Nat → Prop} {g : Nat} {v : Value} {l : List UInt8} (h : Own w0.heap.size w v l) (hg : g < w0.heap.size) : Rest w (fun k => F k ∨ v.ownBlock = some k) g v l := by
  rcases h.gen with h | ⟨b, cap, rfl, hb, hlt, hc, hm, hcell, hf⟩
  · exact Or.inl h
  · exact Or.inr ⟨b, 0, cap, rfl, Or.inr rfl, by omega, hlt, hc, hm, fun j hj => by rw [Nat.zero_add]; exact hcell j hj, fun j hj => by rw [Nat.zero_add]; exact hf j hj⟩
theorem own_foot {w0 w : World} {F : Nat → Prop} {v : Value} {l : List UInt8} (h : Own w0.heap.size w v l) (hF : ∀ k, F k → k < w0.heap.size) (hs : w0.heap.size ≤ w.heap.size) : (∀ k, (F k ∨ v.ownBlock = some k) → k < w.heap.size) ∧ ∀ k, (F k ∨ v.ownBlock = some k) → F k ∨ w0.heap.size ≤ k := by
  refine ⟨fun k hk => ?_, fun k hk => ?_⟩
  · rcases hk with hk | hk
    · have := hF k hk; omega
    · exact (World.ownsRow.lt h k hk).2
  · rcases hk with hk | hk
    · exact Or.inl hk
    · exact Or.inr (World.ownsRow.lt h k hk).1
/-- append of a row of bytes to a reader's row. -/
theorem run_append_rest (w : World) (F : Nat → Prop) (g : Nat) (ty : TypeId) (v : Value) (xs : List UInt8) (hr : Rest w F g v xs) (hF : ∀ k, F k → k < w.heap.size) (hg : F g) (q : Option Addr) (l : List UInt8) (m c : Nat) (hm : l.length = m) (hl : Bs w q l) (hnil : q = none → c = 0) (hsz : xs.length + m ≤ 70368744177664) :
    ∃ v' w' F', (Builtin.append_ #[22, 22] ty #[v, .slice q m c]).run Tryd.prog w = .ok v' w' ∧ Rest w' F' g v' (xs ++ l) ∧ Turn F w w' F' ∧ w'.heap[g]? = w.heap[g]? ∧ F' g ∧ (∀ k, F' k → k < w'.heap.size) := by
  obtain ⟨i0, hi0, hz0, hz1, hzb⟩ := info_parts u8_parts
  have hgl := hF g hg
  rcases q with _ | ad
  · obtain rfl := hnil rfl
    have h0 : l.length = 0 := by
      rcases Nat.eq_zero_or_pos l.length with h' | h'
      · exact h'
      · obtain ⟨b, off, e, -⟩ := hl h'
        cases e
    obtain rfl : l = [] := List.eq_nil_of_length_eq_zero h0
    obtain rfl : 0 = m := hm
    refine ⟨v, w, F, ?_, by rw [List.append_nil]; exact hr, Turn.of_below (Below.refl _ _), rfl, hg, hF⟩
    rcases hr with ⟨rfl, -⟩ | ⟨b, off, cap, rfl, -, -, -, hnc, -⟩
    · simp [Builtin.append_, run_underlying (P := Tryd.prog) (w := w) Tryd.underlying22, sizeOf, typeInfo, hi0, Builtin.lenOf, Builtin.firstCells]
    · simp [Builtin.append_, run_underlying (P := Tryd.prog) (w := w) Tryd.underlying22, sizeOf, typeInfo, hi0, Builtin.lenOf, Builtin.firstCells, hnc, storeCells]
  · have hnews : ∀ j u, (bv l)[j]? = some u → w.cell? (ad.add j) = some u := fun j u hu => by
      obtain ⟨ad', e, -, hc⟩ := copy_src hl (by
        rcases Nat.eq_zero_or_pos (bv l).length with h' | h'
        · rw [List.eq_nil_of_length_eq_zero h'] at hu
          simp at hu
        · exact h')
      injection e with e
      subst e
      exact hc j u hu
    have hlb : (bv l).length = m * i0.size := by rw [bv_length, hz1, Nat.mul_one]; exact hm
    rcases hr with ⟨rfl, rfl⟩ | ⟨b, off, cap, rfl, hFb, hbg, hlt, hnc, hcm, hcell, hf⟩
    · obtain ⟨v', w', hrun, ho', hgr, -⟩ := run_append_own (P := Tryd.prog) w w.heap.size 22 ty 5 i0 (.int .u8 0) 1 1 Tryd.underlying22 hi0 hz0 hz1 hzb rfl (by decide) (.slice none 0 0) 0 [] (World.ownsRow_nil w _ _ 1) ad m c (bv l) (by rw [bv_length, Nat.mul_one]; exact hm) hnews (bv_one _) (by unfold maxLen; omega) (by omega) (Nat.le_refl _)
      have ho2 : Own w.heap.size w' v' ([] ++ l) := by
        unfold Own
        rw [List.nil_append, hm]
        simpa using ho'
      have hft := own_foot (F := F) ho2 hF hgr.size
      exact ⟨v', w', _, hrun, own_rest ho2 hgl, ⟨hgr.os, hgr.tape, hgr.output, hgr.size, fun k hk _ => hgr.block k hk (fun e => by cases e), hft.2⟩, hgr.block g hgl (fun e => by cases e), Or.inl hg, hft.1⟩
    · by_cases hroom : xs.length + m ≤ cap
      · have hrun := run_append_room_cells (P := Tryd.prog) w 22 ty 5 i0 Tryd.underlying22 hi0 b off xs.length cap ad m c (bv l) hlb hnews (bv_one _) hroom
          (fun j hj => by rw [bv_length] at hj; rw [hz1, Nat.mul_one, Nat.add_assoc]; exact (hf (xs.length + j) (by omega)).1)
          (fun j hj => by rw [bv_length] at hj; rw [hz1, Nat.mul_one, Nat.add_assoc]; exact (hf (xs.length + j) (by omega)).2)
        rw [hz1, Nat.mul_one] at hrun
        have hlen : (xs ++ l).length = xs.length + m := by rw [List.length_append, hm]
        have hsm : ∀ i, i < (bv l).length → (w.cell? ⟨b, off + xs.length + i, none⟩).isSome = true := fun i hi => by rw [bv_length] at hi; rw [Nat.add_assoc]; exact (hf (xs.length + i) (by omega)).1
        refine ⟨_, _, F, hrun, Or.inr ⟨b, off, cap, by rw [hlen], hFb, hbg, by rw [setCells_size]; exact hlt, by rw [hlen]; exact hroom, hcm, fun j hj => ?_, fun j hj => ⟨?_, ?_⟩⟩, ?_, ?_, hg, fun k hk => by rw [setCells_size]; exact hF k hk⟩
        · rw [hlen] at hj
          by_cases hjx : j < xs.length
          · rw [World.cell?_setCells_out b _ _ _ _ (fun _ _ => Or.inl (show off + j < off + xs.length by omega)), List.getElem_append_left hjx]
            exact hcell j hjx
          · have h1 := World.cell?_setCells_in b (bv l) (off + xs.length) w hsm (j - xs.length) (by rw [bv_length]; omega)
            rw [show off + xs.length + (j - xs.length) = off + j by omega] at h1
            rw [h1, List.getElem_append_right (by omega)]
            simp [bv]
        · by_cases hjx : xs.length ≤ j ∧ j < xs.length + m
          · have h1 := World.cell?_setCells_in b (bv l) (off + xs.length) w hsm (j - xs.length) (by rw [bv_length]; omega)
            rw [show off + xs.length + (j - xs.length) = off + j by omega] at h1
            rw [h1]
            rfl
          · rw [World.cell?_setCells_out b _ _ _ _ (fun _ _ => by rw [bv_length, hm]; show off + j < off + xs.length ∨ off + xs.length + m ≤ off + j; omega)]
            exact (hf j hj).1
        · rw [World.frozen?_setCells]
          exact (hf j hj).2
        · have hbl := below_cells (B := b) (Nat.le_refl b) (bv l) (off + xs.length) w (Below.refl b w)
          refine ⟨hbl.os, hbl.tape, hbl.output, by rw [setCells_size]; exact Nat.le_refl _, fun k hk hnf => ?_, fun k hk => Or.inl hk⟩
          exact setCells_other (fun e : k = b => hnf (by rw [e]; exact hFb)) _ _ _
        · exact setCells_other (fun e => hbg e.symm) _ _ _
      · obtain ⟨v', w', hrun, ho', hgr⟩ := run_append_arg_grows (P := Tryd.prog) w 22 ty 5 i0 (.int .u8 0) 1 1 Tryd.underlying22 hi0 hz0 hz1 hzb rfl (by decide) ⟨b, off, none⟩ xs.length cap (bv xs) (by rw [bv_length, Nat.mul_one]) (fun j u hu => by
          have hj : j < xs.length := by
            rcases Nat.lt_or_ge j xs.length with h | h
            · exact h
            · rw [List.getElem?_eq_none (by rw [bv_length]; exact h)] at hu; cases hu
          have e := Option.some.inj ((bv_at xs j hj).symm.trans hu)
          subst e
          rw [Addr.add_lit]
          exact hcell j hj) ad m c (bv l) (by rw [bv_length, Nat.mul_one]; exact hm) hnews (by omega) (by unfold maxLen; omega) (by omega)
        have ho2 : Own w.heap.size w' v' (xs ++ l) := by
          unfold Own
          rw [List.length_append, hm, bv_app]
          exact ho'
        have hft := own_foot (F := F) ho2 hF hgr.size
        exact ⟨v', w', _, hrun, own_rest ho2 hgl, ⟨hgr.os, hgr.tape, hgr.output, hgr.size, fun k hk _ => hgr.block k hk (fun e => by cases e), hft.2⟩, hgr.block g hgl (fun e => by cases e), Or.inl hg, hft.1⟩

theorem wpList_append_rest {w : World} {F : Nat → Prop} {g : Nat} {ops : Array Oper} {rest : List Oper} {o : Oper} {a : Act} {Q : Exit → Act → World → Prop} (hgd : o.guard = none) (s x : Operand)
    (ho : o.op = .call { callee := .builtin .append, args := #[s, x], argTypes := #[22, 22] })
    (v : Value) (xs : List UInt8) (hs : a.eval s = v) (hr : Rest w F g v xs) (hF : ∀ k, F k → k < w.heap.size) (hg : F g)
    (q : Option Addr) (l : List UInt8) (m c : Nat) (hx : a.eval x = .slice q m c) (hm : l.length = m) (hl : Bs w q l) (hnil : q = none → c = 0) (hsz : xs.length + m ≤ 70368744177664)
    (h : ∀ v' w' F', Rest w' F' g v' (xs ++ l) → Turn F w w' F' → w'.heap[g]? = w.heap[g]? → F' g → (∀ k, F' k → k < w'.heap.size) → wpList Tryd.prog ops Q rest (a.put o.dst v') w') : wpList Tryd.prog ops Q (o :: rest) a w := by
  refine wpList_plain hgd fun K hK => ?_
  obtain ⟨v', w', F', hrun, h1, h2, h3, h4, h5⟩ := run_append_rest w F g o.type v xs hr hF hg q l m c hm hl hnil hsz
  unfold Oper.wp execOp
  simp only [ho, resolve, invoke, builtin, Sem.run_bind, Sem.run_pure, Result.andThen_ok, List.map_toArray, List.map_cons, List.map_nil, hs, hx, hrun]
  exact hK _ _ (h v' w' F' h1 h2 h3 h4 h5)

/-- The reader's own cell, written. -/
theorem Rest.set {w : World} {F : Nat → Prop} {g : Nat} {v : Value} {l : List UInt8} (h : Rest w F g v l) (x : Value) : Rest (w.setCell ⟨g, 0, none⟩ x) F g v l := by
  rcases h with h | ⟨b, off, cap, rfl, hF, hbg, hlt, hc, hm, hcell, hf⟩
  · exact Or.inl h
  · have hk := Below.heap_setCell w ⟨g, 0, none⟩ x b hbg
    refine Or.inr ⟨b, off, cap, rfl, hF, hbg, by simpa [World.setCell] using hlt, hc, hm, fun j hj => ?_, fun j hj => ?_⟩
    · rw [World.cell?_of_block (a := ⟨b, off + j, none⟩) hk]; exact hcell j hj
    · rw [World.cell?_of_block (a := ⟨b, off + j, none⟩) hk, World.frozen?_of_block (a := ⟨b, off + j, none⟩) hk]; exact hf j hj
theorem turn_set {F : Nat → Prop} {w : World} {g : Nat} (x : Value) (hg : F g) : Turn F w (w.setCell ⟨g, 0, none⟩ x) F :=
  ⟨rfl, rfl, rfl, by simp [World.setCell], fun k _ hf => Below.heap_setCell w ⟨g, 0, none⟩ x k (fun e => hf (by rw [e]; exact hg)), fun k hk => Or.inl hk⟩
theorem rd_set {w : World} {F : Nat → Prop} {g : Nat} {r x : Value} {l : List UInt8} {bad : Bool} (hg : F g) (hc : w.cell? ⟨g, 0, none⟩ = some r) (hf : w.frozen? ⟨g, 0, none⟩ = false) (hr : Rest w F g x l) (hl : ∀ k, F k → k < w.heap.size) (hb : bad = true → nextL l = .bad) : Rd (w.setCell ⟨g, 0, none⟩ x) F (.pointer (some ⟨g, 0, none⟩)) l bad :=
  ⟨g, x, rfl, hg, World.cell?_setCell_same w _ _ hc, by rw [World.frozen?_setCell]; exact hf, hr.set x, fun k hk => by have := hl k hk; simpa [World.setCell] using this, hb⟩
theorem Rest.form {w : World} {F : Nat → Prop} {g : Nat} {v : Value} {l : List UInt8} (h : Rest w F g v l) : ∃ q c, v = .slice q l.length c ∧ Bs w q l ∧ l.length ≤ c ∧ c ≤ 9223372036854775807 ∧ (q = none → c = 0) := by
  rcases h with ⟨rfl, rfl⟩ | ⟨b, off, cap, rfl, hF, hbg, hlt, hc, hm, hcell, hf⟩
  · exact ⟨none, 0, rfl, fun h => absurd h (by simp), by simp, by omega, fun _ => rfl⟩
  · exact ⟨_, cap, rfl, fun _ => ⟨b, off, rfl, hlt, hcell⟩, hc, hm, fun h => by cases h⟩

set_option maxHeartbeats 2000000 in
theorem feed_rd (w : World) (F : Nat → Prop) (a : Addr) (l : List UInt8) (bad : Bool) (p : Option Addr) (m : List UInt8) (n c : Nat) (h : Rd w F (.pointer (some a)) l bad) (hm : m.length = n) (hb : Bs w p m) (hc : n ≤ c) (hcm : c ≤ 9223372036854775807) (hnil : p = none → c = 0) (hz : l.length + n ≤ 65536) (hg : Gd w) :
    Calls Tryd.prog 18 #[.pointer (some a), .slice p n c] w fun e w' => ∃ F', e = .returned (.tuple #[]) ∧ Rd w' F' (.pointer (some a)) (l ++ m) bad ∧ Turn F w w' F' := by
  obtain ⟨g, r, hv, hFg, hcell, hfr, hr, hl, hbad⟩ := h
  injection hv with hv
  injection hv with hv
  subst hv
  have HR := Lib.hid hr
  have HL := Lib.hid hl
  have HF := Lib.hid hFg
  have HM := Lib.hid hm
  have HB := Lib.hid hb
  have HNil := Lib.hid hnil
  have HBad := Lib.hid (show bad = true → nextL (l ++ m) = .bad from fun e => nextL_bad (hbad e) m)
  have HSz := Lib.hid (show l.length + n ≤ 70368744177664 by omega)
  clear hr hl hFg hm hb hnil hbad hg hz
  go_enter Tryd.func18, Tryd.ntmps18
  go_wp2_with (at_builtin; refine wpList_append_rest (F := F) (g := g) rfl (.tmp 8) (.tmp 9) rfl r l rfl HR.out HL.out HF.out p m n c rfl HM.out HB.out HNil.out HSz.out ?_; intro v' w' F' h1 h2 h3 h4 h5; have hcell' := (World.cell?_of_block (a := ⟨g, 0, none⟩) h3).trans hcell; have hfr' := (World.frozen?_of_block (a := ⟨g, 0, none⟩) h3).trans hfr; have H1 := Lib.hid h1; have H2 := Lib.hid h2; have H4 := Lib.hid h4; have H5 := Lib.hid h5; obtain ⟨q', c', hv', -⟩ := h1.form; obtain ⟨N, hN⟩ : ∃ N, N = (l ++ m).length := ⟨_, rfl⟩; rw [← hN] at hv'; subst hv'; clear h1 h2 h3 h4 h5 hcell hfr hN)
  have HC := Lib.hid hcell'
  have HFr := Lib.hid hfr'
  go_end0
  exact ⟨F', rfl, rd_set H4.out HC.out HFr.out H1.out H5.out HBad.out, H2.out.trans (turn_set _ H4.out)⟩

theorem AnsS.turn {F F' : Nat → Prop} {base : Nat} {w w' : World} {v : Value} {L : List (List UInt8)} (h : AnsS base w v L) (hF : ∀ k, F k → k < base) (ht : Turn F w w' F') : AnsS base w' v L := by
  obtain ⟨q, c, hv, hS, hq, h1⟩ := h
  refine ⟨q, c, hv, ?_, hq, h1⟩
  intro h0
  obtain ⟨b, off, hp, hlt, hc⟩ := hS h0
  have hb := hq _ hp
  have hnf : ¬ F b := fun hf => by have := hF b hf; have hb : base ≤ b := hb; omega
  exact ⟨b, off, hp, Nat.lt_of_lt_of_le hlt ht.size, fun j hj => by rw [ht.cell (a := ⟨b, off + j, none⟩) hlt hnf]; exact hc j hj⟩
theorem first_of_b {bad : Bool} {l l' : List UInt8} {o : Option (List (List UInt8))} {b : Bool} (h : FirstB bad l o l' b) (hb : bad = true → nextL l = .bad) : First l o l' b := by
  unfold FirstB at h
  by_cases e : bad = true
  · rw [if_pos e] at h
    obtain ⟨rfl, rfl, rfl⟩ := h
    exact First.bad (hb e)
  · rw [if_neg e] at h
    exact h
theorem first_inv {l l' : List UInt8} {o : Option (List (List UInt8))} {b : Bool} (h : First l o l' b) : (nextL l = .bad ∧ o = none ∧ l' = l ∧ b = true) ∨ (nextL l = .part ∧ o = none ∧ l' = l ∧ b = false) ∨ (∃ k, nextL l = .is [] k ∧ First (l.drop k) o l' b) ∨ ∃ r k, nextL l = .is r k ∧ 0 < r.length ∧ o = some r ∧ l' = l.drop k ∧ b = false := by
  cases h with
  | bad h => exact Or.inl ⟨h, rfl, rfl, rfl⟩
  | part h => exact Or.inr (Or.inl ⟨h, rfl, rfl, rfl⟩)
  | skip h hs => exact Or.inr (Or.inr (Or.inl ⟨_, h, hs⟩))
  | some h => exact Or.inr (Or.inr (Or.inr ⟨_, _, h, by simp, rfl, rfl, rfl⟩))
theorem rest_part {w : World} {F : Nat → Prop} {g : Nat} {q : Option Addr} {l : List UInt8} {n c k : Nat} (h : Rest w F g (.slice q n c) l) (hn : l.length = n) (hk : k ≤ n) : Rest w F g (.slice (ReplyT.partAt q c k) (n - k) (c - k)) (l.drop k) := by
  rcases h with ⟨hv, rfl⟩ | ⟨b, off, cap, hv, hF, hbg, hlt, hc, hm, hcell, hf⟩
  · injection hv with e1 e2 e3
    subst e1 e2 e3
    obtain rfl : k = 0 := by omega
    exact Or.inl ⟨rfl, rfl⟩
  · injection hv with e1 e2 e3
    subst e1 e2 e3
    unfold ReplyT.partAt
    by_cases hck : c = k
    · rw [if_pos hck]
      have hlk : l.drop k = [] := List.drop_eq_nil_of_le (by omega)
      refine Or.inr ⟨b, off, c - k, by rw [List.length_drop], hF, hbg, hlt, by rw [List.length_drop]; omega, by omega, fun j hj => ?_, fun j hj => absurd hj (by omega)⟩
      rw [hlk] at hj
      exact absurd hj (by simp)
    · rw [if_neg hck]
      have ha : Option.map (fun x => x.add (k * 1)) (some (⟨b, off, none⟩ : Addr)) = some ⟨b, off + k, none⟩ := by
        show some ((⟨b, off, none⟩ : Addr).add (k * 1)) = _
        rw [Addr.add_lit, Nat.mul_one]
      rw [ha]
      refine Or.inr ⟨b, off + k, c - k, by rw [List.length_drop], hF, hbg, hlt, by rw [List.length_drop]; omega, by omega, fun j hj => ?_, fun j hj => ?_⟩
      · rw [List.length_drop] at hj
        rw [Nat.add_assoc, hcell (k + j) (by omega), List.getElem_drop]
      · rw [Nat.add_assoc]
        exact hf (k + j) (by omega)

/-- A variable that holds no slice is not the reader's cell: it stays. -/
theorem var_set {W : World} {g n c : Nat} {q : Option Addr} {y x : Value} {name : String} {cs : Array Value} (hc : W.cell? ⟨g, 0, none⟩ = some (.slice q n c)) (hv : W.var? Tryd.prog name = some cs) (h0 : cs[0]? = some x) (hx : ∀ q n c, x ≠ .slice q n c) : (W.setCell ⟨g, 0, none⟩ y).var? Tryd.prog name = some cs := by
  unfold World.var? at hv ⊢
  rcases hg : Tryd.prog.globalNamed name with _ | k
  · rw [hg] at hv
    cases hv
  · rw [hg] at hv
    simp only [Option.bind_some] at hv ⊢
    by_cases e : k = g
    · subst e
      exfalso
      cases hh : W.heap[k]? with
      | none => rw [hh] at hv; cases hv
      | some o =>
        rw [hh] at hv
        cases o with
        | cells cs' t m =>
          have hv : some cs' = some cs := hv
          injection hv with hv
          subst hv
          rw [cell_of_row _ _ _ _ _ _ hh, h0] at hc
          injection hc with hc
          exact hx _ _ _ hc
        | _ => cases hv
    · rw [Below.heap_setCell W ⟨g, 0, none⟩ y k e]
      exact hv
theorem gd_set {W : World} {g n c : Nat} {q : Option Addr} {y : Value} (hc : W.cell? ⟨g, 0, none⟩ = some (.slice q n c)) (h : Gd W) : Gd (W.setCell ⟨g, 0, none⟩ y) := by
  obtain ⟨tp, p, h1⟩ := h.syn
  obtain ⟨tq, q', h2⟩ := h.rng
  exact ⟨var_set hc h.tab (x := .int .u64 1) rfl (fun _ _ _ e => by cases e), ⟨tp, p, var_set hc h1 rfl (fun _ _ _ e => by cases e)⟩, ⟨tq, q', var_set hc h2 rfl (fun _ _ _ e => by cases e)⟩⟩

set_option maxHeartbeats 4000000 in
theorem next_rd (w : World) (F : Nat → Prop) (a : Addr) (l : List UInt8) (bad : Bool) (o : Option (List (List UInt8))) (l' : List UInt8) (b' : Bool) (h : Rd w F (.pointer (some a)) l bad) (hf : FirstB bad l o l' b') (hz : l.length ≤ 65536) (hg : Gd w) :
    Calls Tryd.prog 23 #[.pointer (some a)] w fun e w' => ∃ F' u, e = .returned (.tuple #[u, .bool o.isSome, .int .i64 (if b' = true then 10 else 0)]) ∧ AnsS w.heap.size w' u (o.getD []) ∧ OkS F' w' u (o.getD []) ∧ Rd w' F' (.pointer (some a)) l' b' ∧ Turn F w w' F' := by
  obtain ⟨g, r, hv, hFg, hcell, hfr, hr, hl, hbad⟩ := h
  injection hv with hv
  injection hv with hv
  subst hv
  have hfst := first_of_b hf hbad
  have HFirst := Lib.hid hfst
  have HL := Lib.hid hl
  have HF := Lib.hid hFg
  have HG := Lib.hid hg
  have HGV := Lib.hid (fun (W : World) (h : Turn F w W F) (h2 : True) => h)
  have H0 := Lib.hid (show w.cell? ⟨g, 0, none⟩ = some r ∧ w.frozen? ⟨g, 0, none⟩ = false ∧ Rest w F g r l from ⟨hcell, hfr, hr⟩)
  clear hf hbad hfst hl hFg hr hg hcell hfr HGV
  go_enter Tryd.func23, Tryd.ntmps23
  go_wp2_with fail
  go_loopg [6] l.length (fun gh x wr => ∃ (lc : List UInt8) (r : Value), lc.length ≤ gh ∧ lc.length ≤ 65536 ∧ Hid (First lc o l' b') ∧ Hid (wr.cell? ⟨g, 0, none⟩ = some r ∧ wr.frozen? ⟨g, 0, none⟩ = false ∧ Rest wr F g r lc) ∧ Hid (Turn F w wr F) ∧ Hid (Gd wr))
  case atStart => exact ⟨l, r, Nat.le_refl _, hz, HFirst, H0, Lib.hid (Turn.of_below (Below.refl _ _)), HG⟩
  case round =>
    obtain ⟨lc, r, hlg, hlz, HFi, HR, HT, HGd⟩ := hrel
    clear H0 HFirst HG
    obtain ⟨qr, cr, rfl, hB, hc, hcm, hnil⟩ := HR.out.2.2.form
    have hFw : ∀ k, F k → k < w.heap.size := HL.out
    have HFr := Lib.hid (show ∀ k, F k → k < wr.heap.size from fun k hk => Nat.lt_of_lt_of_le (hFw k hk) HT.out.size)
    obtain ⟨n, hn⟩ : ∃ n, n = lc.length := ⟨_, rfl⟩
    have CN := next_any qr lc n cr wr hn.symm hB (by omega) hcm (by omega) hnil HGd.out
    rw [← hn] at HR
    have hc0 := HR.out.1
    have HN := Lib.hid hn
    have hgw : g < wr.heap.size := HFr.out g HF.out
    clear hB hnil
    rcases first_inv HFi.out with ⟨h1, rfl, rfl, rfl⟩ | ⟨h1, rfl, rfl, rfl⟩ | ⟨k, h1, h2⟩ | ⟨ws, k, h1, h2, rfl, rfl, rfl⟩
    · rw [h1] at CN
      have CN : Hid (Calls Tryd.prog 12 #[.slice qr n cr] wr (fun e w' => ∃ v, e = .returned (.tuple #[v, .int .i64 0, .int .i64 10]) ∧ AnsS wr.heap.size w' v [] ∧ Below wr.heap.size wr w')) := Lib.hid CN
      have HBad := Lib.hid h1
      clear h1 hn hlg hlz
      go_wp2_with fail
      refine CN.out.mono ?_
      rintro e w1 ⟨v, rfl, ha, hb1⟩
      have HB1 := Lib.hid hb1
      obtain ⟨qv, cv, rfl, -⟩ := ha
      clear hb1
      go_wp2_with fail
      go_ret3
      have hT := HT.out.trans (Turn.of_below (F := F) HB1.out)
      refine ⟨F, .slice none 0 0, rfl, ansS_none _ _, (ansS_none w.heap.size w1).off hFw, ?_, hT⟩
      refine rd_keep (w := wr) ⟨g, _, rfl, HF.out, HR.out.1, HR.out.2.1, HR.out.2.2, HFr.out, fun _ => HBad.out⟩ (fun k hk => HB1.out.block k (HFr.out k hk)) HB1.out.size
    · rw [h1] at CN
      have CN : Hid (Calls Tryd.prog 12 #[.slice qr n cr] wr (fun e w' => ∃ v, e = .returned (.tuple #[v, .int .i64 0, .int .i64 0]) ∧ AnsS wr.heap.size w' v [] ∧ Below wr.heap.size wr w')) := Lib.hid CN
      clear h1 hn hlg hlz
      go_wp2_with fail
      refine CN.out.mono ?_
      rintro e w1 ⟨v, rfl, ha, hb1⟩
      have HB1 := Lib.hid hb1
      obtain ⟨qv, cv, rfl, -⟩ := ha
      clear hb1
      go_wp2_with fail
      go_ret3
      have hT := HT.out.trans (Turn.of_below (F := F) HB1.out)
      refine ⟨F, .slice none 0 0, rfl, ansS_none _ _, (ansS_none w.heap.size w1).off hFw, ?_, hT⟩
      refine rd_keep (w := wr) ⟨g, _, rfl, HF.out, HR.out.1, HR.out.2.1, HR.out.2.2, HFr.out, fun h => by cases h⟩ (fun k hk => HB1.out.block k (HFr.out k hk)) HB1.out.size
    · obtain ⟨-, hk1, hk2, -⟩ := nextL_is h1
      rw [h1] at CN
      have CN : Hid (Calls Tryd.prog 12 #[.slice qr n cr] wr (fun e w' => ∃ v, e = .returned (.tuple #[v, .int .i64 (k : Int), .int .i64 0]) ∧ AnsS wr.heap.size w' v [] ∧ Below wr.heap.size wr w')) := Lib.hid CN
      have HFi2 := Lib.hid h2
      have t0 : ((k : Int) == 0) = false := by rw [beq_eq_false_iff_ne]; omega
      have hkn : k ≤ n := by omega
      have q1 := fun W => sl_l qr n cr k hkn W
      obtain ⟨gq, rfl⟩ : ∃ gq, gk = gq + 1 := ⟨gk - 1, by omega⟩
      have hdl : (lc.drop k).length ≤ gq := by rw [List.length_drop]; omega
      have hdz : (lc.drop k).length ≤ 65536 := by rw [List.length_drop]; omega
      clear h1 h2 hn hlg hlz
      go_wp2_with fail
      refine CN.out.mono ?_
      rintro e w1 ⟨v, rfl, ha, hb1⟩
      have HB1 := Lib.hid hb1
      obtain ⟨qv, cv, rfl, -⟩ := ha
      have hc1 : w1.cell? ⟨g, 0, none⟩ = some (.slice qr n cr) := (hb1.cell (p := ⟨g, 0, none⟩) hgw).trans HR.out.1
      have hf1 : w1.frozen? ⟨g, 0, none⟩ = false := (hb1.frozen (p := ⟨g, 0, none⟩) hgw).trans HR.out.2.1
      have HC1 := Lib.hid hc1
      have HF1 := Lib.hid hf1
      obtain ⟨P, hP⟩ : ∃ P, P = ReplyT.partAt qr cr k := ⟨_, rfl⟩
      have HR1 := Lib.hid (show Rest w1 F g (.slice P (n - k) (cr - k)) (lc.drop k) by
        rw [hP]
        exact (rest_part HR.out.2.2 HN.out.symm hkn).keep (fun k hk => HB1.out.block k (HFr.out k hk)) HB1.out.size)
      rw [← hP] at q1
      have HGd1 := Lib.hid (HGd.out.keep HB1.out)
      clear hb1 hP hc0
      go_wp2_with fail
      go_roundg gq
      case measure => omega
      case rel =>
        have hts := turn_set (w := w1) (.slice P (n - k) (cr - k)) HF.out
        refine ⟨lc.drop k, .slice P (n - k) (cr - k), hdl, hdz, HFi2, Lib.hid ⟨World.cell?_setCell_same w1 _ _ HC1.out, by rw [World.frozen?_setCell]; exact HF1.out, HR1.out.set _⟩, Lib.hid ((HT.out.trans (Turn.of_below (F := F) HB1.out)).trans hts), Lib.hid ?_⟩
        exact gd_set HC1.out HGd1.out
    · obtain ⟨-, hk1, hk2, -⟩ := nextL_is h1
      rw [h1] at CN
      have CN : Hid (Calls Tryd.prog 12 #[.slice qr n cr] wr (fun e w' => ∃ v, e = .returned (.tuple #[v, .int .i64 (k : Int), .int .i64 0]) ∧ AnsS wr.heap.size w' v ws ∧ Below wr.heap.size wr w')) := Lib.hid CN
      have t0 : ((k : Int) == 0) = false := by rw [beq_eq_false_iff_ne]; omega
      have hkn : k ≤ n := by omega
      have q1 := fun W => sl_l qr n cr k hkn W
      obtain ⟨m, hm⟩ : ∃ m, m = ws.length := ⟨_, rfl⟩
      have d1 : 0 < m := by omega
      have HM := Lib.hid hm
      clear h1 h2 hn hlg hlz hm
      go_wp2_with fail
      refine CN.out.mono ?_
      rintro e w1 ⟨v, rfl, ha, hb1⟩
      have HB1 := Lib.hid hb1
      have HA := Lib.hid (show AnsS w.heap.size w1 v ws ∧ AnsS wr.heap.size w1 v ws from ⟨ha.base HT.out.size, ha⟩)
      obtain ⟨qv, cv, hv, -⟩ := ha
      rw [← HM.out] at hv
      subst hv
      have hc1 : w1.cell? ⟨g, 0, none⟩ = some (.slice qr n cr) := (hb1.cell (p := ⟨g, 0, none⟩) hgw).trans HR.out.1
      have hf1 : w1.frozen? ⟨g, 0, none⟩ = false := (hb1.frozen (p := ⟨g, 0, none⟩) hgw).trans HR.out.2.1
      have HC1 := Lib.hid hc1
      have HF1 := Lib.hid hf1
      obtain ⟨P, hP⟩ : ∃ P, P = ReplyT.partAt qr cr k := ⟨_, rfl⟩
      have HR1 := Lib.hid (show Rest w1 F g (.slice P (n - k) (cr - k)) (lc.drop k) by
        rw [hP]
        exact (rest_part HR.out.2.2 HN.out.symm hkn).keep (fun k hk => HB1.out.block k (HFr.out k hk)) HB1.out.size)
      rw [← hP] at q1
      clear hb1 hP hc0
      go_wp2_with fail
      go_ret3
      have hts := turn_set (w := w1) (.slice P (n - k) (cr - k)) HF.out
      refine ⟨F, .slice qv m cv, rfl, AnsS.turn HA.out.1 hFw hts, (HA.out.2.off HFr.out).turn hts, ?_, (HT.out.trans (Turn.of_below (F := F) HB1.out)).trans hts⟩
      exact rd_set HF.out HC1.out HF1.out HR1.out (fun k hk => Nat.lt_of_lt_of_le (HFr.out k hk) HB1.out.size) (fun h => by cases h)

end Go.Proofs.YtadffjmpkeaikaaDoor.FrameM
