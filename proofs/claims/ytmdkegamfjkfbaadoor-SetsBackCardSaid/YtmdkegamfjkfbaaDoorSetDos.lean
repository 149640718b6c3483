/-
  The landed code of package sets: the map of what is done, with two closures, and Do: a copy of the value, the map, the type, what is done.
-/
import Derived.Test.YtmdkegamfjkfbaaDoorSetMeths
import Derived.Test.YtmdkegamfjkfbaaDoorMapLits
import Derived.Test.YtmdkegamfjkfbaaDoorLowNum
import Derived.Deep.DeepCutAuto
import Derived.Laws.EntriesVeiled
import Derived.Deep.RegionLaw
namespace Go.Proofs.YtmdkegamfjkfbaaDoor.SetM
open Go.RowKit Kit StrT RowG BOrd ValT StoT ReplyT ReplyMath ValM BytesIn DoT Low MapT LstT SetT NumL ReplyM LawK DoV
open RefTab (results_cell_slot)
set_option linter.unusedVariables false
set_option maxRecDepth 100000

theorem RowI.qlt {w0 w : World} {q : Option Addr} {n c : Nat} {L : List (List UInt8)} (h : RowI w0 w q n c L) : ∀ a, q = some a → w0.heap.size ≤ a.block := by
  obtain ⟨q', c', e, -, h2, -⟩ := OwnR.ans h.ow
  injection e with e1 e2 e3
  subst e1
  exact h2
theorem err_to (s : ByteArray) (l : List UInt8) (hs : s.data.toList = l) (hl : l.length ≤ 1048576) (W : World) (hg : Gt W) : Calls Tryd.prog 26 #[.string s] W (Gives (err l) W) := by
  subst hs
  exact err_any s W (by rw [← str_len]; exact hl) hg
/-- Texts as a value. -/
def pvS (q : Option Addr) (n c : Nat) (L : List (List UInt8)) : PV := ⟨4, ⟨#[]⟩, q, n, c, none, 0, 0, none, 0, 0, ⟨4, [], L, [], []⟩⟩
theorem pvS_in {w : World} {q : Option Addr} {n c : Nat} {L : List (List UInt8)} (hn : L.length = n) (h1 : n ≤ c) (h2 : c ≤ 9223372036854775807) (h3 : q = none → c = 0) (h4 : Rs strE w q L) (hz : n ≤ 1048576) : (pvS q n c L).In w :=
  ⟨rfl, by simp [pvS], rfl, h4, Rs.nil _ _ _, Rs.nil _ _ _, hn, rfl, rfl, hz, by simp [pvS], by simp [pvS], h1, by simp [pvS], by simp [pvS], h2, by simp [pvS], by simp [pvS], h3, fun _ => rfl, fun _ => rfl⟩
set_option maxHeartbeats 4000000 in
theorem set_any (q : Option Addr) (n c : Nat) (L : List (List UInt8)) (w : World) (hn : L.length = n) (h1 : n ≤ c) (h2 : c ≤ 9223372036854775807) (h3 : q = none → c = 0) (h4 : Rs strE w q L) (hz : n ≤ 1048576) :
    Calls Tryd.prog 27 #[.slice q n c] w fun e w' => ∃ p : PV, e = .returned p.agg ∧ p.In w' ∧ p.d = setV L ∧ (∀ j, p.at_ j → ∃ a, q = some a ∧ a.block = j) ∧ Below w.heap.size w w' := by
  rcases Nat.eq_zero_or_pos n with h0 | h0
  · subst h0
    obtain rfl : L = [] := List.eq_nil_of_length_eq_zero hn
    have HCs := Lib.hid (show (Tryd.prog.info? 26).map (·.size) = some (#[.int .u8 0, .string ⟨#[]⟩, .slice none 0 0, .slice none 0 0, .slice none 0 0] : Array Value).size from val_size)
    clear hn h1 h2 h3 h4 hz
    go_enter Tryd.func27, Tryd.ntmps27
    go_wp2_with fail
    exact bodyPost_ret (results_cell_row rfl _ _ w.heap.size 26 #[.int .u8 0, .string ⟨#[]⟩, .slice none 0 0, .slice none 0 0, .slice none 0 0] (0, 0) _ rfl (heap_alloc_last w _) Tryd.underlying26 rfl HCs.out) rfl ⟨pv0, rfl, pv0_in _, rfl, fun j hj => absurd hj (pv0_at j), (Below.refl _ _).alloc (Nat.le_refl _) _⟩
  · have HCs := Lib.hid (show (Tryd.prog.info? 26).map (·.size) = some (#[.int .u8 4, .string ⟨#[]⟩, .slice q n c, .slice none 0 0, .slice none 0 0] : Array Value).size from val_size)
    have HI := Lib.hid (fun W (hW : Below w.heap.size w W) => pvS_in hn h1 h2 h3 (h4.keep hW) hz)
    have HL := Lib.hid (show (pvS q n c L).d = setV L from (setV_some (by omega)).symm)
    have nz : ((n : Int) == 0) = false := by rw [beq_eq_false_iff_ne]; omega
    have nz2 : ¬ (n : Int) = 0 := by omega
    clear hn h1 h2 h3 h4 hz
    go_enter Tryd.func27, Tryd.ntmps27
    go_wp2_with fail
    exact bodyPost_ret (results_cell_row rfl _ _ w.heap.size 26 #[.int .u8 4, .string ⟨#[]⟩, .slice q n c, .slice none 0 0, .slice none 0 0] (0, 0) _ rfl (heap_alloc_last w _) Tryd.underlying26 rfl HCs.out) rfl ⟨pvS q n c L, rfl, HI.out _ (Kit.below1 _ _), HL.out, fun j hj => by
      unfold PV.at_ pvS at hj
      simp at hj
      obtain ⟨-, a, e, rfl⟩ := hj
      exact ⟨a, e, rfl⟩, (Below.refl _ _).alloc (Nat.le_refl _) _⟩
theorem holds_any (k : Int) (S ql qh qz : Value) (w : World) (t : Bool) (ht : (k = 0 ∨ k = 4) ∧ t = true ∨ (k ≠ 0 ∧ k ≠ 4) ∧ t = false) :
    Calls Tryd.prog 25 #[.agg #[.int .u8 k, S, ql, qh, qz]] w fun e w' => e = .returned (.bool t) ∧ Below w.heap.size w w' := by
  have hB := Kit.below1 w (.cells #[.int .u8 k, S, ql, qh, qz] 26)
  have c0 : (w.alloc (.cells #[.int .u8 k, S, ql, qh, qz] 26)).cell? ⟨w.heap.size, 0, none⟩ = some (.int .u8 k) := by
    rw [cell_of_row _ _ _ _ 26 _ (heap_alloc_last w _)]
    rfl
  have HB := Lib.hid hB
  clear hB
  rcases ht with ⟨rfl | rfl, rfl⟩ | ⟨⟨h1, h2⟩, rfl⟩
  · go_enter Tryd.func25, Tryd.ntmps25
    go_wp2_with fail
    go_ret
    exact ⟨rfl, HB.out⟩
  · go_enter Tryd.func25, Tryd.ntmps25
    go_wp2_with fail
    go_ret
    exact ⟨rfl, HB.out⟩
  · have t1 : (k == 0) = false := by rw [beq_eq_false_iff_ne]; exact h1
    have t2 : (k == 4) = false := by rw [beq_eq_false_iff_ne]; exact h2
    go_enter Tryd.func25, Tryd.ntmps25
    go_wp2_with fail
    go_ret
    exact ⟨rfl, HB.out⟩

def fEach (b : Nat) : Value := .func (.func 50) #[] #[.pointer (some ⟨b, 0, none⟩)]
def deedsL (b1 b2 : Nat) : List (List UInt8 × Value) := [(nSadd, .agg #[.int .i64 3, .func (.func 50) #[] #[.pointer (some ⟨b1, 0, none⟩)]]), (nSrem, .agg #[.int .i64 3, .func (.func 50) #[] #[.pointer (some ⟨b2, 0, none⟩)]]), (nSismember, .agg #[.int .i64 3, .func (.func 40) #[] #[]]), (nSmembers, .agg #[.int .i64 2, .func (.func 41) #[] #[]]), (nScard, .agg #[.int .i64 2, .func (.func 42) #[] #[]])]
theorem deeds_nodup (b1 b2 : Nat) : ((deedsL b1 b2).map (·.1)).Nodup := by
  show [nSadd, nSrem, nSismember, nSmembers, nScard].Nodup
  decide +kernel
theorem each_mk (f : FuncId) (w : World) : Calls Tryd.prog 39 #[.func (.func f) #[] #[]] w fun e w' => e = .returned (.func (.func 50) #[] #[.pointer (some ⟨w.heap.size, 0, none⟩)]) ∧ BoxAt w' w.heap.size f ∧ Below w.heap.size w w' := by
  have hmf : ∀ (fn : Fn) (first cap : Array Value) (W : World), (Instr.makeFunc fn first cap).run Tryd.prog W = .ok (.func fn first cap) W := fun _ _ _ _ => rfl
  have HB := Lib.hid (Kit.below1 w (.cells #[.func (.func f) #[] #[]] 40))
  go_enter Tryd.func39, Tryd.ntmps39
  go_wp2_with fail
  go_ret
  exact ⟨rfl, heap_alloc_last w _, HB.out⟩
/-- What a store into a map changes: its block alone. -/
structure Set1 (w w' : World) (b : Nat) : Prop where
  bl : ∀ B w0, Below B w0 w → B ≤ b → Below B w0 w'
  ot : ∀ k, k ≠ b → w'.heap[k]? = w.heap[k]?
theorem wpList_insert_one {P : Program} {w : World} {ops : Array Oper} {rest : List Oper} {o : Oper} {a : Act} {Q : Exit → Act → World → Prop} (hgd : o.guard = none) (t : TypeId) (m v : Operand) (S : ByteArray) (ho : o.op = .insert t m (.const (.string S)) v)
    (k e : TypeId) (ht : P.underlying t = some (.map k e)) (hk : P.underlying k = some .string) (b : Nat) (hm : a.eval m = .map (some b)) (V : Value) (hv : a.eval v = V) (L : List (List UInt8 × Value)) (h : MapAt w b L) (hnd : S.data.toList ∉ L.map (·.1))
    (hK : ∀ w', MapAt w' b (L ++ [(S.data.toList, V)]) → Set1 w w' b → wpList P ops Q rest (a.put o.dst undef) w') : wpList P ops Q (o :: rest) a w := by
  refine wpList_plain hgd fun K hK' => ?_
  have hx : a.eval (.const (.string S)) = .string S := rfl
  obtain ⟨es, clock, hh, hes⟩ := h
  have hks : ∀ y ∈ es.toList, Go.MapKept.IsKey .string y.key := fun y hy => by
    obtain ⟨p, _, e1, _⟩ := map_keys hes y hy
    rw [e1]
    trivial
  have hnew : ∀ y ∈ es.toList, y.key ≠ .string S := fun y hy hS => by
    obtain ⟨p, hp, e1, _⟩ := map_keys hes y hy
    have e2 : p.1 = S.data.toList := key_same (e1.symm.trans hS)
    exact hnd (List.mem_map.2 ⟨p, hp, e2⟩)
  rcases Go.MapKept.findNow_spec (d := .string) (k := .string S) trivial es.toList 0 hks with ⟨h1, h2⟩ | ⟨j, e0, h1, h2, h3⟩
  · unfold Oper.wp
    have hrun : (Instr.mapUpdate t (.map (some b)) (.string S) V).run P w = .ok () { w with heap := w.heap.setIfInBounds b (.map (es.push { key := .string S, val := V, born := clock }) (clock + 1)) } := by
      simp [Instr.mapUpdate, run_underlying ht, Go.MapKept.run_getObj_map hh, Go.MapKept.run_checkKey hk (d := .string) (k := .string S) trivial, Go.MapKept.run_findKey hk h1, Go.MapKept.run_setObj_map _ hh, Result.andThen]
    simp [execOp, ho, hm, hx, hv, hrun, Result.andThen]
    refine hK' _ _ (hK _ ⟨_, _, (Go.MapKept.heap_set hh).1, ?_⟩ ⟨fun B w0 hb hB => below_mapped hb hB _, fun k hk => by simp [show ¬ b = k from fun e => hk e.symm]⟩)
    rw [List.map_append, Array.toList_push, List.map_append, hes]
    rfl
  · exact absurd h3 (hnew e0 (List.mem_of_getElem? h2))
set_option maxHeartbeats 8000000 in
theorem deeds_bm (w : World) : Calls Tryd.prog 23 #[] w fun e w' => ∃ bm b1 b2, e = .returned (.map (some bm)) ∧ MapAt w' bm (deedsL b1 b2) ∧ BoxAt w' b1 31 ∧ BoxAt w' b2 30 ∧ Below w.heap.size w w' := by
  have hmm := @run_makeMap Tryd.prog
  have C1 := Lib.hid (fun W => each_mk 31 W)
  have C2 := Lib.hid (fun W => each_mk 30 W)
  have HM := Lib.hid (show MapAt (w.alloc (.map #[] 0)) w.heap.size [] from MapAt.new w)
  have HB := Lib.hid (Kit.below1 w (.map #[] 0))
  go_enter Tryd.func23, Tryd.ntmps23
  go_wp2_with fail
  with_reducible refine (C1.out _).mono ?_
  rintro e w1 ⟨rfl, hx1, hb1⟩
  have HX1n := Lib.hid (show (w.alloc (.map #[] 0)).heap.size ≠ w.heap.size by simp)
  generalize (w.alloc (.map #[] 0)).heap.size = b1 at hx1 HX1n ⊢
  have HX1 := Lib.hid hx1
  have HM := Lib.hid (HM.out.keep hb1)
  have HB := Lib.hid (HB.out.trans (hb1.mono HB.out.size))
  clear hx1 hb1 C1
  go_wp2_with (with_reducible refine wpList_insert_one rfl 58 (.tmp 1) (.tmp 3) _ rfl 9 56 Tryd.underlying58 Tryd.underlying9 w.heap.size rfl (.agg #[.int .i64 3, .func (.func 50) #[] #[.pointer (some ⟨b1, 0, none⟩)]]) rfl [] HM.out (by decide) ?_; intro w2 hM hS)
  have HM := Lib.hid (show MapAt w2 w.heap.size [(nSadd, (.agg #[.int .i64 3, .func (.func 50) #[] #[.pointer (some ⟨b1, 0, none⟩)]]))] from hM)
  have HB := Lib.hid (show Below w.heap.size w w2 from hS.bl _ _ HB.out (Nat.le_refl _))
  have HX1 := Lib.hid (show BoxAt w2 b1 31 from (hS.ot _ HX1n.out).trans HX1.out)
  clear hM hS
  have HX2n := Lib.hid (show w2.heap.size ≠ w.heap.size from by have := HM.out.lt; omega)
  go_wp2_with fail
  with_reducible refine (C2.out _).mono ?_
  rintro e w3 ⟨rfl, hx2, hb3⟩
  generalize hg2 : w2.heap.size = b2 at hx2 HX2n ⊢
  have HX2 := Lib.hid hx2
  have HX1 := Lib.hid (HX1.out.keep hb3)
  have HM := Lib.hid (HM.out.keep hb3)
  have HB := Lib.hid (HB.out.trans (hb3.mono HB.out.size))
  clear hx2 hb3 C2 hg2
  go_wp2_with (first
    | ((with_reducible refine wpList_insert_one rfl 58 (.tmp 1) (.tmp 5) _ rfl 9 56 Tryd.underlying58 Tryd.underlying9 w.heap.size rfl (.agg #[.int .i64 3, .func (.func 50) #[] #[.pointer (some ⟨b2, 0, none⟩)]]) rfl [(nSadd, (.agg #[.int .i64 3, .func (.func 50) #[] #[.pointer (some ⟨b1, 0, none⟩)]]))] HM.out ?_ ?_); (show _ ∉ [nSadd]; decide); intro w4 hM hS
       have HM := Lib.hid (show MapAt w4 w.heap.size [(nSadd, (.agg #[.int .i64 3, .func (.func 50) #[] #[.pointer (some ⟨b1, 0, none⟩)]])), (nSrem, (.agg #[.int .i64 3, .func (.func 50) #[] #[.pointer (some ⟨b2, 0, none⟩)]]))] from hM)
       have HB := Lib.hid (show Below w.heap.size w w4 from hS.bl _ _ HB.out (Nat.le_refl _))
       have HX1 := Lib.hid (show BoxAt w4 b1 31 from (hS.ot _ HX1n.out).trans HX1.out)
       have HX2 := Lib.hid (show BoxAt w4 b2 30 from (hS.ot _ HX2n.out).trans HX2.out)
       clear hM hS)
    | ((with_reducible refine wpList_insert_one rfl 58 (.tmp 1) (.tmp 6) _ rfl 9 56 Tryd.underlying58 Tryd.underlying9 w.heap.size rfl (.agg #[.int .i64 3, .func (.func 40) #[] #[]]) rfl [(nSadd, (.agg #[.int .i64 3, .func (.func 50) #[] #[.pointer (some ⟨b1, 0, none⟩)]])), (nSrem, (.agg #[.int .i64 3, .func (.func 50) #[] #[.pointer (some ⟨b2, 0, none⟩)]]))] HM.out ?_ ?_); (show _ ∉ [nSadd, nSrem]; decide); intro w5 hM hS
       have HM := Lib.hid (show MapAt w5 w.heap.size [(nSadd, (.agg #[.int .i64 3, .func (.func 50) #[] #[.pointer (some ⟨b1, 0, none⟩)]])), (nSrem, (.agg #[.int .i64 3, .func (.func 50) #[] #[.pointer (some ⟨b2, 0, none⟩)]])), (nSismember, (.agg #[.int .i64 3, .func (.func 40) #[] #[]]))] from hM)
       have HB := Lib.hid (show Below w.heap.size w w5 from hS.bl _ _ HB.out (Nat.le_refl _))
       have HX1 := Lib.hid (show BoxAt w5 b1 31 from (hS.ot _ HX1n.out).trans HX1.out)
       have HX2 := Lib.hid (show BoxAt w5 b2 30 from (hS.ot _ HX2n.out).trans HX2.out)
       clear hM hS)
    | ((with_reducible refine wpList_insert_one rfl 58 (.tmp 1) (.tmp 7) _ rfl 9 56 Tryd.underlying58 Tryd.underlying9 w.heap.size rfl (.agg #[.int .i64 2, .func (.func 41) #[] #[]]) rfl [(nSadd, (.agg #[.int .i64 3, .func (.func 50) #[] #[.pointer (some ⟨b1, 0, none⟩)]])), (nSrem, (.agg #[.int .i64 3, .func (.func 50) #[] #[.pointer (some ⟨b2, 0, none⟩)]])), (nSismember, (.agg #[.int .i64 3, .func (.func 40) #[] #[]]))] HM.out ?_ ?_); (show _ ∉ [nSadd, nSrem, nSismember]; decide); intro w6 hM hS
       have HM := Lib.hid (show MapAt w6 w.heap.size [(nSadd, (.agg #[.int .i64 3, .func (.func 50) #[] #[.pointer (some ⟨b1, 0, none⟩)]])), (nSrem, (.agg #[.int .i64 3, .func (.func 50) #[] #[.pointer (some ⟨b2, 0, none⟩)]])), (nSismember, (.agg #[.int .i64 3, .func (.func 40) #[] #[]])), (nSmembers, (.agg #[.int .i64 2, .func (.func 41) #[] #[]]))] from hM)
       have HB := Lib.hid (show Below w.heap.size w w6 from hS.bl _ _ HB.out (Nat.le_refl _))
       have HX1 := Lib.hid (show BoxAt w6 b1 31 from (hS.ot _ HX1n.out).trans HX1.out)
       have HX2 := Lib.hid (show BoxAt w6 b2 30 from (hS.ot _ HX2n.out).trans HX2.out)
       clear hM hS)
    | ((with_reducible refine wpList_insert_one rfl 58 (.tmp 1) (.tmp 8) _ rfl 9 56 Tryd.underlying58 Tryd.underlying9 w.heap.size rfl (.agg #[.int .i64 2, .func (.func 42) #[] #[]]) rfl [(nSadd, (.agg #[.int .i64 3, .func (.func 50) #[] #[.pointer (some ⟨b1, 0, none⟩)]])), (nSrem, (.agg #[.int .i64 3, .func (.func 50) #[] #[.pointer (some ⟨b2, 0, none⟩)]])), (nSismember, (.agg #[.int .i64 3, .func (.func 40) #[] #[]])), (nSmembers, (.agg #[.int .i64 2, .func (.func 41) #[] #[]]))] HM.out ?_ ?_); (show _ ∉ [nSadd, nSrem, nSismember, nSmembers]; decide); intro w7 hM hS
       have HM := Lib.hid (show MapAt w7 w.heap.size [(nSadd, (.agg #[.int .i64 3, .func (.func 50) #[] #[.pointer (some ⟨b1, 0, none⟩)]])), (nSrem, (.agg #[.int .i64 3, .func (.func 50) #[] #[.pointer (some ⟨b2, 0, none⟩)]])), (nSismember, (.agg #[.int .i64 3, .func (.func 40) #[] #[]])), (nSmembers, (.agg #[.int .i64 2, .func (.func 41) #[] #[]])), (nScard, (.agg #[.int .i64 2, .func (.func 42) #[] #[]]))] from hM)
       have HB := Lib.hid (show Below w.heap.size w w7 from hS.bl _ _ HB.out (Nat.le_refl _))
       have HX1 := Lib.hid (show BoxAt w7 b1 31 from (hS.ot _ HX1n.out).trans HX1.out)
       have HX2 := Lib.hid (show BoxAt w7 b2 30 from (hS.ot _ HX2n.out).trans HX2.out)
       clear hM hS))
  go_ret
  exact ⟨_, b1, b2, rfl, HM.out, HX1.out, HX2.out, HB.out⟩
theorem OwnR.same {α : Type} {E : Enc α} {base : Nat} {w w' : World} {v : Value} {L : List α} (h : OwnR E base w v L) (ho : ∀ k, v.ownBlock = some k → w'.heap[k]? = w.heap[k]?) : OwnR E base w' v L := by
  refine ⟨h.1, ?_⟩
  rcases h.2 with h1 | ⟨g, cap, cur, e, hg, h2, h3⟩
  · exact Or.inl h1
  · exact Or.inr ⟨g, cap, cur, e, hg, (ho g (by rw [e]; rfl)).trans h2, h3⟩
theorem OwnR.blt {α : Type} {E : Enc α} {base : Nat} {w : World} {v : Value} {L : List α} (h : OwnR E base w v L) : ∀ k, v.ownBlock = some k → base ≤ k ∧ k < w.heap.size := by
  intro k hk
  rcases h.2 with ⟨rfl, -⟩ | ⟨g, cap, cur, rfl, hg, h2, -⟩
  · cases hk
  · injection hk with hk
    subst hk
    exact ⟨hg, (Array.getElem?_eq_some_iff.1 h2).1⟩
/-- The block of what was found, before it is filled. -/
def DZ (w : World) (g : Nat) : Prop := w.heap[g]? = some (.cells #[.int .i64 0, .nilFunc] 56 (0, 0))
theorem DZ.keep {w w' : World} {g : Nat} (h : DZ w g) (hb : Below w.heap.size w w') : DZ w' g := (hb.block g (Array.getElem?_eq_some_iff.1 h).1).trans h
theorem dz_al {w w' : World} (hb : Below (w.alloc (.cells #[.int .i64 0, .nilFunc] 56)).heap.size (w.alloc (.cells #[.int .i64 0, .nilFunc] 56)) w') : DZ w' w.heap.size := DZ.keep (heap_alloc_last w _) hb
theorem dz_da {w w' : World} (hb : Below (w.drew.alloc (.cells #[.int .i64 0, .nilFunc] 56)).heap.size (w.drew.alloc (.cells #[.int .i64 0, .nilFunc] 56)) w') : DZ w' w.heap.size := DZ.keep (heap_alloc_last w.drew _) hb
theorem b_al {w w' : World} {o : Obj} (hb : Below (w.alloc o).heap.size (w.alloc o) w') : Below w.heap.size w w' := ((Below.refl _ _).alloc (Nat.le_refl _) _).trans (hb.mono (by simp))
theorem b_da {w w' : World} {o : Obj} (hb : Below (w.drew.alloc o).heap.size (w.drew.alloc o) w') : Below w.heap.size w w' := ((Below.refl _ w).drew.alloc (Nat.le_refl _) _).trans (hb.mono (show w.heap.size ≤ (w.drew.alloc o).heap.size by have : w.drew.heap.size = w.heap.size := rfl; simp [this]))
theorem b_dr {w w' : World} (hb : Below w.drew.heap.size w.drew w') : Below w.heap.size w w' := (Below.refl w.heap.size w).drew.trans hb
theorem dz_facts {w : World} {g : Nat} (h : DZ w g) : w.cell? ⟨g, 0, none⟩ = some (.int .i64 0) ∧ w.cell? ⟨g, 1, none⟩ = some .nilFunc ∧ w.frozen? ⟨g, 0, none⟩ = false ∧ w.frozen? ⟨g, 1, none⟩ = false :=
  ⟨(cell_of_row _ _ _ _ 56 _ h).trans rfl, (cell_of_row _ _ _ _ 56 _ h).trans rfl, frozen_of_row _ _ _ _ 56 h, frozen_of_row _ _ _ _ 56 h⟩
def dset (w : World) (g : Nat) (m : Int) (fu : FuncId) (cap : Array Value) : World := (w.setCell ⟨g, 0, none⟩ (.int .i64 m)).setCell ⟨g, 1, none⟩ (.func (.func fu) #[] cap)
/-- The two boxes. -/
structure Bxs (w : World) (b1 b2 : Nat) : Prop where
  x1 : BoxAt w b1 31
  x2 : BoxAt w b2 30
theorem Bxs.keep {w w' : World} {b1 b2 : Nat} (h : Bxs w b1 b2) (hb : Below w.heap.size w w') : Bxs w' b1 b2 := ⟨h.x1.keep hb, h.x2.keep hb⟩
theorem deed_func : (56 : TypeId) ≠ 40 := by decide
theorem box_dz {w : World} {g b : Nat} {f : FuncId} (hz : DZ w g) (hb : BoxAt w b f) : b ≠ g := by
  intro e
  subst e
  unfold DZ at hz
  unfold BoxAt at hb
  rw [hz] at hb
  injection hb with hb
  injection hb with _ h3
  exact deed_func h3
/-- What was found is there; the value's blocks are as they were. -/
structure Fnd (w w7 : World) (gd : Nat) (m : Int) (fu : FuncId) (cap : Array Value) (b1 b2 : Nat) (x z : Array Value) (p : PV) (B : Nat) : Prop where
  db : DB w w7 x z
  pv : p.In w7
  ow : OwnR strE B w7 (.slice p.ql p.nl p.cl) p.d.l
  sz : B ≤ w7.heap.size
  d0 : w7.cell? ⟨gd, 0, none⟩ = some (.int .i64 m)
  d1 : w7.cell? ⟨gd, 1, none⟩ = some (.func (.func fu) #[] cap)
  bx : Bxs w7 b1 b2
  gl : gd < w7.heap.size
theorem fnd_al {w w6 : World} {m : Int} {fu : FuncId} {cap : Array Value} {b1 b2 : Nat} {x z : Array Value} {p : PV} {B : Nat} (h : DB w w6 x z) (hp : p.In w6) (ho : OwnR strE B w6 (.slice p.ql p.nl p.cl) p.d.l) (hB : B ≤ w6.heap.size) (hx : Bxs w6 b1 b2) : Fnd w (w6.alloc (.cells #[.int .i64 m, .func (.func fu) #[] cap] 56)) w6.heap.size m fu cap b1 b2 x z p B where
  db := h.keep (Kit.below1 w6 _)
  pv := pv_keep hp (Kit.below1 w6 _)
  ow := ho.keep (Kit.below1 w6 _)
  sz := by simp; omega
  d0 := by rw [cell_of_row _ _ _ _ 56 _ (heap_alloc_last w6 _)]; rfl
  d1 := by rw [cell_of_row _ _ _ _ 56 _ (heap_alloc_last w6 _)]; rfl
  bx := hx.keep (Kit.below1 w6 _)
  gl := by simp
theorem fnd_set {w w6 : World} {gd : Nat} {m : Int} {fu : FuncId} {cap : Array Value} {b1 b2 : Nat} {x z : Array Value} {p : PV} {B : Nat} (hz : DZ w6 gd) (hg : w.heap.size + 1 < gd) (hq : ∀ j, p.at_ j → j < gd) (hqo : ∀ k, (Value.slice p.ql p.nl p.cl).ownBlock = some k → B ≤ k ∧ k < gd) (h : DB w w6 x z) (hp : p.In w6) (ho : OwnR strE B w6 (.slice p.ql p.nl p.cl) p.d.l) (hB : B ≤ w6.heap.size) (hx : Bxs w6 b1 b2) : Fnd w (dset w6 gd m fu cap) gd m fu cap b1 b2 x z p B := by
  have h1 := heap_setCell_same _ _ 0 _ _ (.int .i64 m) hz
  have h2 := heap_setCell_same _ _ 1 _ _ (.func (.func fu) #[] cap) h1
  have ho' : ∀ j, j ≠ gd → (dset w6 gd m fu cap).heap[j]? = w6.heap[j]? := fun j hj => by
    unfold dset
    rw [heap_setCell_other _ _ _ _ hj, heap_setCell_other _ _ _ _ hj]
  refine ⟨⟨by rw [ho' _ (by omega)]; exact h.bx, by rw [ho' _ (by omega)]; exact h.re, ((h.bl.setCell (p := ⟨gd, 0, none⟩) (by show _ ≤ gd; omega) _).setCell (p := ⟨gd, 1, none⟩) (by show _ ≤ gd; omega) _), by simpa [dset] using h.sz⟩, hp.same (by simp [dset]) (fun j hj => ho' j (by have := hq j hj; omega)), OwnR.same ho (fun k hk => ho' k (by have := (hqo k hk).2; omega)), by simpa [dset] using hB, ?_, ?_, ⟨(ho' _ (box_dz hz hx.x1)).trans hx.x1, (ho' _ (box_dz hz hx.x2)).trans hx.x2⟩, by have := (Array.getElem?_eq_some_iff.1 hz).1; simpa [dset] using this⟩
  · exact (cell_of_row _ _ _ _ 56 _ h2).trans rfl
  · exact (cell_of_row _ _ _ _ 56 _ h2).trans rfl

theorem own_pv (k : Int) (S : ByteArray) (ql : Option Addr) (nl cl : Nat) (qh : Option Addr) (nh ch : Nat) (qz : Option Addr) (nz cz : Nat) (d : V) (w : World) (h : VIn w k S ql nl cl qh nh ch qz nz cz d) :
    Calls Tryd.prog 22 #[.agg #[.int .u8 k, .string S, .slice ql nl cl, .slice qh nh ch, .slice qz nz cz]] w fun e w' => ∃ p : PV, e = .returned p.agg ∧ p.In w' ∧ p.d = d ∧ (∀ j, p.at_ j → w.heap.size ≤ j) ∧ OwnR strE w.heap.size w' (.slice p.ql p.nl p.cl) d.l ∧ Below w.heap.size w w' := by
  have hz := pv_sizes (p := ⟨k, S, ql, nl, cl, qh, nh, ch, qz, nz, cz, d⟩) h
  refine (own_any2 k S ql nl cl qh nh ch qz nz cz d w h).mono ?_
  intro e w' he
  obtain ⟨S', vl, vh, vz, h1, h2, h3, h4, h5, h6, -⟩ := id he
  obtain ⟨p, e1, e2, e3, e4, e5⟩ := pv_own he.p hz.1 hz.2.1 hz.2.2.1 hz.2.2.2
  rw [h1] at e1
  injection e1 with e1
  have e6 : vl = .slice p.ql p.nl p.cl := by
    unfold PV.agg at e1
    simp only [Value.agg.injEq, Array.mk.injEq, List.cons.injEq] at e1
    exact e1.2.2.1
  subst e6
  refine ⟨p, ?_, e2, e3, fun j hj => (e4 j hj).1, h3, e5⟩
  rw [h1, e1]
theorem cut_world (W : World) (b : Nat) (h : b ≤ W.heap.size) : ∃ w0 : World, w0.heap.size = b ∧ Below b w0 W :=
  ⟨{ W with heap := W.heap.extract 0 b }, by simp; omega, ⟨rfl, rfl, rfl, by simp; omega, fun k hk => by
    show W.heap[k]? = (W.heap.extract 0 b)[k]?
    rw [Array.getElem?_extract, if_pos (by omega), Nat.zero_add]⟩⟩
theorem db_cut {w W : World} {x z : Array Value} (h : DB w W x z) (B : Nat) (h1 : w.heap.size + 1 + 1 ≤ B) (h2 : B ≤ W.heap.size) : ∃ w0 : World, w0.heap.size = B ∧ DB w w0 x z ∧ Below w0.heap.size w0 W := by
  obtain ⟨w0, hs, hb⟩ := cut_world W B h2
  refine ⟨w0, hs, ⟨?_, ?_, ?_, by omega⟩, by rw [hs]; exact hb⟩
  · rw [← hb.block _ (by omega)]; exact h.bx
  · rw [← hb.block _ (by omega)]; exact h.re
  · have h1 := h.bl
    exact ⟨hb.os.symm.trans h1.os, hb.tape.symm.trans h1.tape, hb.output.symm.trans h1.output, by omega, fun k hk => by rw [← hb.block k (by omega)]; exact h1.block k hk⟩

set_option maxHeartbeats 8000000 in
/-- Of a value of another type. -/
theorem do_wrong (nm : List UInt8) (m : Int) (fu : FuncId) (cap : Nat → Nat → Array Value) (hV : ∀ b1 b2 Z, getM (deedsL b1 b2) nm Z = .agg #[.int .i64 m, .func (.func fu) #[] (cap b1 b2)]) (p : PV) (q : Option Addr) (L : List (List UInt8)) (n c : Nat) (w : World) (hp : p.In w) (hS : p.S.size ≤ 1048576) (hg : Gt w) (hn : L.length = n) (h0 : 1 ≤ n) (hm : m ≤ n) (hs : StrT.Ss w q L) (hw : (wd L 0).length ≤ 140737488351232) (hnm : nmL L = nm) (hk : p.d.kind ≠ 0 ∧ p.d.kind ≠ 4) :
    Calls Tryd.prog 11 #[p.agg, .slice q n c] w (DoP (fun _ => False) p.d eWrong w) := by
  obtain ⟨k, S, ql, nl, cl, qh, nh, ch, qz, nz, cz, d⟩ := p
  have CO := Lib.hid (fun W (h : Below w.heap.size w W) => own_pv k S ql nl cl qh nh ch qz nz cz d W (pv_keep hp h))
  have HSd := Lib.hid (show S.data.toList = d.s from VIn.es hp)
  have hSz : S.size ≤ 1048576 := hS
  have HSs := Lib.hid (show d.s.length ≤ 1048576 by rw [← HSd.out, str_len]; exact hSz)
  have HG := Lib.hid (fun W (h : Below w.heap.size w W) => hg.keep h)
  have HD := Lib.hid (DB.new w #[.int .u8 k, .string S, .slice ql nl cl, .slice qh nh ch, .slice qz nz cz] #[.int .u8 0, .string ⟨#[]⟩, .slice none 0 0, .slice none 0 0, .slice none 0 0])
  obtain ⟨T, hT⟩ : ∃ T : ByteArray, T = ⟨(wd L 0).toArray⟩ := ⟨_, rfl⟩
  have hTz : T.size ≤ maxLen := by rw [hT, size_bytes]; unfold maxLen; exact Nat.le_trans hw (by decide)
  have HTd := Lib.hid (show lowL T.data.toList = nm by rw [hT]; exact hnm)
  obtain ⟨b, off, rfl, hbl, hc⟩ := ss_word hs 0 (by omega)
  rw [← hT, Nat.add_zero] at hc
  have HC := Lib.hid (fun W (h : Below w.heap.size w W) => (h.cell (p := ⟨b, off, none⟩) hbl).trans hc)
  have HSt := Lib.hid (fun W (h : Below w.heap.size w W) => hs.keep h)
  have n0 : (0 : Int) < (n : Int) := by omega
  have n00 : 0 < n := by omega
  have n1 : ((n : Int) == 0) = false := by rw [beq_eq_false_iff_ne]; omega
  have n3 : decide ((n : Int) < m) = false := decide_eq_false (by omega)
  have CD := Lib.hid (fun W => deeds_bm W)
  have CL := Lib.hid (fun W => LowN.lower_any T W hTz)
  rw [HTd.out] at CL
  have HLk := Lib.hid (fun (b1 b2 : Nat) (W : World) (bm : Nat) (h : MapAt W bm (deedsL b1 b2)) => lookup_ok Tryd.underlying58 Tryd.underlying9 h ⟨nm.toArray⟩ (.agg #[.int .i64 m, .func (.func fu) #[] (cap b1 b2)]) (hV b1 b2))
  have CE := Lib.hid (fun W (h : Below w.heap.size w W) (s : ByteArray) (hs : s.data.toList = mWrong) => (show Calls Tryd.prog 26 #[.string s] W (Gives eWrong W) from err_to s mWrong hs (by decide) W (hg.keep h)))
  have HK := Lib.hid hk
  show Calls Tryd.prog 11 #[.agg #[.int .u8 k, .string S, .slice ql nl cl, .slice qh nh ch, .slice qz nz cz], .slice (some ⟨b, off, none⟩) n c] w _
  clear hp hS hg hT hnm hs hc hw HTd hV
  go_enter Tryd.func11, Tryd.ntmps11
  go_wp2_with fail
  generalize ((w.alloc _).alloc _) = W2 at HD ⊢
  with_reducible refine (CO.out _ HD.out.bl).mono ?_
  rintro e w3 ⟨p1, rfl, hI, hd, ha, ho, hb3⟩
  obtain ⟨k1, S1, ql1, nl1, cl1, qh1, nh1, ch1, qz1, nz1, cz1, d1⟩ := p1
  dsimp only [PV.agg]
  obtain rfl : d1 = d := hd
  rename V => d
  have HCs := Lib.hid (show (Tryd.prog.info? 26).map (·.size) = some (#[.int .u8 k1, .string S1, .slice ql1 nl1 cl1, .slice qh1 nh1 ch1, .slice qz1 nz1 cz1] : Array Value).size from val_size)
  have HOn := Lib.hid (show (#[.int .u8 k1, .string S1, .slice ql1 nl1 cl1, .slice qh1 nh1 ch1, .slice qz1 nz1 cz1] : Array Value).all (·.oneCell') = true by simp [Value.oneCell'])
  have HD3 := Lib.hid (HD.out.keep hb3)
  have HA3 := Lib.hid (show ∀ j, PV.at_ ⟨k1, S1, ql1, nl1, cl1, qh1, nh1, ch1, qz1, nz1, cz1, d⟩ j → w.heap.size + 1 < j from fun j hj => by have := ha j hj; have := HD.out.sz; omega)
  have HI3 := Lib.hid (show PV.In (w3.setRow w.heap.size #[.int .u8 k1, .string S1, .slice ql1 nl1 cl1, .slice qh1 nh1 ch1, .slice qz1 nz1 cz1]) ⟨k1, S1, ql1, nl1, cl1, qh1, nh1, ch1, qz1, nz1, cz1, d⟩ from PV.In.same hI (by simp) (fun j hj => setRow_other _ _ _ _ (by have := HA3.out j hj; omega)))
  have HD4 := Lib.hid (HD3.out.setBox #[.int .u8 k1, .string S1, .slice ql1 nl1 cl1, .slice qh1 nh1 ch1, .slice qz1 nz1 cz1])
  have HO4 := Lib.hid (show OwnR strE W2.heap.size (w3.setRow w.heap.size #[.int .u8 k1, .string S1, .slice ql1 nl1 cl1, .slice qh1 nh1 ch1, .slice qz1 nz1 cz1]) (.slice ql1 nl1 cl1) d.l from OwnR.same ho (fun k hk => setRow_other _ _ _ _ (by have := (OwnR.blt ho k hk).1; have := HD.out.sz; omega)))
  have HB4 := Lib.hid (show w.heap.size + 1 + 1 ≤ W2.heap.size ∧ W2.heap.size ≤ (w3.setRow w.heap.size #[.int .u8 k1, .string S1, .slice ql1 nl1 cl1, .slice qh1 nh1 ch1, .slice qz1 nz1 cz1]).heap.size from ⟨HD.out.sz, by simpa using hb3.size⟩)
  generalize W2.heap.size = B at HO4 HB4
  clear hb3 hI ha ho CO HD
  go_upto_region 4 with (with_reducible refine wpList_store_row rfl 26 (.tmp 2) (.tmp 11) rfl w.heap.size #[.int .u8 k1, .string S1, .slice ql1 nl1 cl1, .slice qh1 nh1 ch1, .slice qz1 nz1 cz1] rfl rfl 26 _ HD3.out.bx HCs.out rfl HOn.out ?_)
  clear HD3
  generalize w3.setRow w.heap.size #[.int .u8 k1, .string S1, .slice ql1 nl1 cl1, .slice qh1 nh1 ch1, .slice qz1 nz1 cz1] = w4 at HD4 HI3 HO4 HB4 ⊢
  have hc4 := HC.out _ HD4.out.bl
  have hc4a := HC.out _ (HD4.out.bl.alloc HD4.out.bl.size (.cells #[.int .i64 0, .nilFunc] 56))
  have hc4b := HC.out _ (HD4.out.bl.drew.alloc HD4.out.bl.size (.cells #[.int .i64 0, .nilFunc] 56))
  have HQ4 := Lib.hid (pv_lt HI3.out)
  have HQO := Lib.hid (OwnR.blt HO4.out)
  have HS4 := Lib.hid HD4.out.sz
  go_cut [6, 7] (fun s6 s7 wx => ∃ gd b1 b2, s6 = .pointer (some ⟨gd, 0, none⟩) ∧ s7 = .bool true ∧ Hid (Fnd w wx gd m fu (cap b1 b2) b1 b2 #[.int .u8 k1, .string S1, .slice ql1 nl1 cl1, .slice qh1 nh1 ch1, .slice qz1 nz1 cz1] #[.int .u8 0, .string ⟨#[]⟩, .slice none 0 0, .slice none 0 0, .slice none 0 0] ⟨k1, S1, ql1, nl1, cl1, qh1, nh1, ch1, qz1, nz1, cz1, d⟩ B))
  case first =>
   go_region_law (first
    | (go_simp; (with_reducible refine (CD.out _).mono ?_); rintro e w5 ⟨bm, b1, b2, rfl, hM, hx1, hx2, hb5⟩; dsimp only
       have HX5 := Lib.hid (show Bxs w5 b1 b2 from ⟨hx1, hx2⟩)
       clear hx1 hx2
       have hb5' : Below w4.heap.size w4 w5 := by first | exact hb5 | exact b_dr hb5 | exact b_al hb5 | exact b_da hb5
       have HM5 := Lib.hid hM
       have HD5 := Lib.hid (HD4.out.keep hb5')
       have HI5 := Lib.hid (pv_keep HI3.out hb5')
       have HO5 := Lib.hid (HO4.out.keep hb5')
       have HBs5 := Lib.hid (Nat.le_trans HB4.out.2 hb5'.size)
       have hc5 := HC.out _ HD5.out.bl
       have hc5a := HC.out _ (HD5.out.bl.alloc HD5.out.bl.size (.cells #[.int .i64 0, .nilFunc] 56))
       first
         | (have HZ5 := Lib.hid (show DZ w5 w4.heap.size from dz_al hb5); have HL5 := Lib.hid hb5'.size)
         | (have HZ5 := Lib.hid (show DZ w5 w4.heap.size from dz_da hb5); have HL5 := Lib.hid hb5'.size)
         | (have HL5 := Lib.hid hb5'.size)
       clear hM hb5 hb5')
    | (go_simp; (with_reducible refine (CL.out _).mono ?_); rintro e w6 ⟨rfl, hb6⟩; dsimp only
       have hb6' : Below w5.heap.size w5 w6 := by first | exact hb6 | exact b_dr hb6 | exact b_al hb6 | exact b_da hb6
       have HM6 := Lib.hid (HM5.out.keep hb6')
       have hlk := HLk.out b1 b2 w6 _ HM6.out
       have hlk2 := HLk.out b1 b2 _ _ (HM6.out.keep (Kit.below1 w6 (.cells #[.int .i64 0, .nilFunc] 56)))
       have HD6 := Lib.hid (HD5.out.keep hb6')
       have HI6 := Lib.hid (pv_keep HI5.out hb6')
       have HO6 := Lib.hid (HO5.out.keep hb6')
       have HBs6 := Lib.hid (Nat.le_trans HBs5.out hb6'.size)
       have HX6 := Lib.hid (HX5.out.keep hb6')
       first
         | (have HF := Lib.hid (show Fnd w (dset w6 w4.heap.size m fu (cap b1 b2)) w4.heap.size m fu (cap b1 b2) b1 b2 _ _ _ B from fnd_set (HZ5.out.keep hb6') (by have := HS4.out; omega) HQ4.out HQO.out HD6.out HI6.out HO6.out HBs6.out HX6.out)
            have hzc := HZ5.out.keep hb6'
            obtain ⟨z0, z1, y0, y1⟩ := dz_facts hzc
            clear hzc)
         | (have hzc : DZ w6 w5.heap.size := by first | exact dz_al hb6 | exact dz_da hb6
            have HF := Lib.hid (show Fnd w (dset w6 w5.heap.size m fu (cap b1 b2)) w5.heap.size m fu (cap b1 b2) b1 b2 _ _ _ B from fnd_set hzc (by have := HS4.out; have := HL5.out; omega) (fun j hj => Nat.lt_of_lt_of_le (HQ4.out j hj) HL5.out) (fun k hk => ⟨(HQO.out k hk).1, Nat.lt_of_lt_of_le (HQO.out k hk).2 HL5.out⟩) HD6.out HI6.out HO6.out HBs6.out HX6.out)
            obtain ⟨z0, z1, y0, y1⟩ := dz_facts hzc
            clear hzc)
         | (have HF := Lib.hid (fnd_al (m := m) (fu := fu) (cap := cap b1 b2) HD6.out HI6.out HO6.out HBs6.out HX6.out))
       clear hb6 hb6'))
   all_goals
    go_wp2_with fail
    go_meet
    exact ⟨_, _, _, rfl, rfl, HF⟩
  case rest =>
  obtain ⟨gd, b1, b2, rfl, rfl, HF⟩ := hcut
  clear HD4 HI3 HO4 hc4 hc4a hc4b HQ4 HQO HS4 CD CL HLk HC
  rename World => W2
  have HD := Lib.hid HF.out.db
  have HI := Lib.hid HF.out.pv
  have HO := Lib.hid HF.out.ow
  have HBs := Lib.hid HF.out.sz
  have d0 := HF.out.d0
  have d1 := HF.out.d1
  have HBx := Lib.hid HF.out.bx
  clear HF
  obtain ⟨-, -, m0, m1, m2, m3, m4⟩ := HD.out.room
  have hK : k1 = (d.kind : Int) := VIn.ek HI.out
  have CH := Lib.hid (fun W => holds_any k1 (.string S1) (.slice ql1 nl1 cl1) (.slice qh1 nh1 ch1) (.slice qz1 nz1 cz1) W false (Or.inr ⟨⟨by have h : d.kind ≠ 0 := HK.out.1; rw [hK]; omega, by have h : d.kind ≠ 4 := HK.out.2; rw [hK]; omega⟩, rfl⟩))
  clear hK
  go_wp2_with fail
  with_reducible refine (CH.out _).mono ?_
  rintro e W3 ⟨rfl, hb3⟩
  have HD := Lib.hid (HD.out.keep hb3)
  have HI := Lib.hid (pv_keep HI.out hb3)
  clear m0 m1 m2 m3 m4 d0 d1 hb3 CH HBx HO HBs
  obtain ⟨-, -, m0, m1, m2, m3, m4⟩ := HD.out.room
  go_wp2_with fail
  go_region_law (first
    | (go_simp; (with_reducible refine (CE.out _ (by first | exact HD.out.bl | exact HD.out.bl.drew) _ ?_).mono ?_); (exact rfl); rintro e w4 ⟨vr, rfl, hA, hb4⟩; dsimp only
       have hb4' : Below W3.heap.size W3 w4 := by first | exact hb4 | exact (Below.refl W3.heap.size W3).drew.trans hb4
       have HD4 := Lib.hid (HD.out.keep hb4')
       have HI4 := Lib.hid (pv_keep HI.out hb4')
       have HA4 := Lib.hid (show Ans W3.heap.size w4 vr _ from hA)
       obtain ⟨-, -, c0, c1, c2, c3, c4⟩ := HD4.out.room
       obtain ⟨-, -, r0, r1, r2, r3, r4⟩ := HD4.out.roomR
       have f0 := HD4.out.roomR.frz 0
       have f1 := HD4.out.roomR.frz 1
       have f2 := HD4.out.roomR.frz 2
       have f3 := HD4.out.roomR.frz 3
       have f4 := HD4.out.roomR.frz 4
       clear hA hb4 hb4'))
  all_goals
    have HHe := Lib.hid (val_five HD4.out.re (.int .u8 k1) (.string S1) (.slice ql1 nl1 cl1) (.slice qh1 nh1 ch1) (.slice qz1 nz1 cz1))
    have HE := Lib.hid (do_five HD4.out ⟨k1, S1, ql1, nl1, cl1, qh1, nh1, ch1, qz1, nz1, cz1, d⟩ (fun _ => False) _ d _ vr HI4.out rfl (fun j hj => Or.inr (by have := HA3.out j hj; omega)) (fun j hj => by have := HA3.out j hj; omega) HA4.out (by have := HD.out.sz; omega))
    go_wp2_with fail
    exact bodyPost_ret (results_cell_slot rfl _ _ (w.heap.size + 1) 26 #[.int .u8 k1, .string S1, .slice ql1 nl1 cl1, .slice qh1 nh1 ch1, .slice qz1 nz1 cz1] (0, 0) _ vr rfl HHe.out Tryd.underlying26 rfl HCs.out rfl) rfl HE.out

set_option maxHeartbeats 16000000 in
/-- Of a value of its own type, or none. -/
theorem do_right (i : Nat) (nm : List UInt8) (m : Int) (fu : FuncId) (hE : ∀ (args : Array Value) (W : World), (callFunc fu args).run Tryd.prog W = .ok (.enter fu args) W) (cap : Nat → Nat → Array Value) (hV : ∀ b1 b2 Z, getM (deedsL b1 b2) nm Z = .agg #[.int .i64 m, .func (.func fu) #[] (cap b1 b2)])
    (hF : ∀ w0 w ql nl cl L qw nw cw A b1 b2, RowI w0 w ql nl cl L → WS w0 qw nw cw A → Gt w0 → Bxs w b1 b2 → Tame i L A → Calls Tryd.prog fu (#[.slice ql nl cl, .slice qw nw cw] ++ cap b1 b2) w (RowD w0 (rowD i L A)))
    (p : PV) (q : Option Addr) (L : List (List UInt8)) (n c : Nat) (w : World) (hp : p.In w) (hS : p.S.size ≤ 1048576) (hg : Gt w) (hn : L.length = n) (hc2 : n ≤ c) (h0 : 2 ≤ n) (hm : m ≤ n) (hs : StrT.Ss w q L) (hw : (wd L 0).length ≤ 140737488351232) (hnm : nmL L = nm) (hk : p.d.kind = 0 ∨ p.d.kind = 4) (ht : Tame i p.d.l (L.drop 2)) :
    Calls Tryd.prog 11 #[p.agg, .slice q n c] w (DoP (fun _ => False) (setV (rowD i p.d.l (L.drop 2)).1) (rowD i p.d.l (L.drop 2)).2 w) := by
  obtain ⟨k, S, ql, nl, cl, qh, nh, ch, qz, nz, cz, d⟩ := p
  have CO := Lib.hid (fun W (h : Below w.heap.size w W) => own_pv k S ql nl cl qh nh ch qz nz cz d W (pv_keep hp h))
  have HSd := Lib.hid (show S.data.toList = d.s from VIn.es hp)
  have hSz : S.size ≤ 1048576 := hS
  have HSs := Lib.hid (show d.s.length ≤ 1048576 by rw [← HSd.out, str_len]; exact hSz)
  have HG := Lib.hid (fun W (h : Below w.heap.size w W) => hg.keep h)
  have HD := Lib.hid (DB.new w #[.int .u8 k, .string S, .slice ql nl cl, .slice qh nh ch, .slice qz nz cz] #[.int .u8 0, .string ⟨#[]⟩, .slice none 0 0, .slice none 0 0, .slice none 0 0])
  obtain ⟨T, hT⟩ : ∃ T : ByteArray, T = ⟨(wd L 0).toArray⟩ := ⟨_, rfl⟩
  have hTz : T.size ≤ maxLen := by rw [hT, size_bytes]; unfold maxLen; exact Nat.le_trans hw (by decide)
  have HTd := Lib.hid (show lowL T.data.toList = nm by rw [hT]; exact hnm)
  obtain ⟨b, off, rfl, hbl, hc⟩ := ss_word hs 0 (by omega)
  rw [← hT, Nat.add_zero] at hc
  have HC := Lib.hid (fun W (h : Below w.heap.size w W) => (h.cell (p := ⟨b, off, none⟩) hbl).trans hc)
  have HSt := Lib.hid (fun W (h : Below w.heap.size w W) => hs.keep h)
  have n0 : (0 : Int) < (n : Int) := by omega
  have n00 : 0 < n := by omega
  have n1 : ((n : Int) == 0) = false := by rw [beq_eq_false_iff_ne]; omega
  have n3 : decide ((n : Int) < m) = false := decide_eq_false (by omega)
  have CD := Lib.hid (fun W => deeds_bm W)
  have CL := Lib.hid (fun W => LowN.lower_any T W hTz)
  rw [HTd.out] at CL
  have HLk := Lib.hid (fun (b1 b2 : Nat) (W : World) (bm : Nat) (h : MapAt W bm (deedsL b1 b2)) => lookup_ok Tryd.underlying58 Tryd.underlying9 h ⟨nm.toArray⟩ (.agg #[.int .i64 m, .func (.func fu) #[] (cap b1 b2)]) (hV b1 b2))
  have HK := Lib.hid hk
  have HT := Lib.hid (show Tame i d.l (L.drop 2) from ht)
  have HN := Lib.hid (show (L.drop 2).length = n - 2 ∧ n - 2 ≤ c - 2 ∧ n ≤ c ∧ L.length = n ∧ 2 ≤ n from ⟨by rw [List.length_drop, hn], by omega, hc2, hn, h0⟩)
  have HG0 := Lib.hid hg
  have s1 : ∀ W, (Instr.slice 22 (.slice (some ⟨b, off, none⟩) n c) (some (.int .i64 2)) none none).run Tryd.prog W = .ok (.slice (StrT.partAt (some ⟨b, off, none⟩) c 2) (n - 2) (c - 2)) W := fun W => StrT.sl_l _ n c 2 h0 hc2 W
  obtain ⟨pw, hpw⟩ : ∃ pw, pw = StrT.partAt (some ⟨b, off, none⟩) c 2 := ⟨_, rfl⟩
  rw [← hpw] at s1
  have HPW := Lib.hid hpw
  clear hpw ht hn hc2
  show Calls Tryd.prog 11 #[.agg #[.int .u8 k, .string S, .slice ql nl cl, .slice qh nh ch, .slice qz nz cz], .slice (some ⟨b, off, none⟩) n c] w _
  clear hp hS hg hT hnm hs hc hw HTd hV
  go_enter Tryd.func11, Tryd.ntmps11
  go_wp2_with fail
  generalize ((w.alloc _).alloc _) = W2 at HD ⊢
  with_reducible refine (CO.out _ HD.out.bl).mono ?_
  rintro e w3 ⟨p1, rfl, hI, hd, ha, ho, hb3⟩
  obtain ⟨k1, S1, ql1, nl1, cl1, qh1, nh1, ch1, qz1, nz1, cz1, d1⟩ := p1
  dsimp only [PV.agg]
  obtain rfl : d1 = d := hd
  rename V => d
  have HCs := Lib.hid (show (Tryd.prog.info? 26).map (·.size) = some (#[.int .u8 k1, .string S1, .slice ql1 nl1 cl1, .slice qh1 nh1 ch1, .slice qz1 nz1 cz1] : Array Value).size from val_size)
  have HOn := Lib.hid (show (#[.int .u8 k1, .string S1, .slice ql1 nl1 cl1, .slice qh1 nh1 ch1, .slice qz1 nz1 cz1] : Array Value).all (·.oneCell') = true by simp [Value.oneCell'])
  have HD3 := Lib.hid (HD.out.keep hb3)
  have HA3 := Lib.hid (show ∀ j, PV.at_ ⟨k1, S1, ql1, nl1, cl1, qh1, nh1, ch1, qz1, nz1, cz1, d⟩ j → w.heap.size + 1 < j from fun j hj => by have := ha j hj; have := HD.out.sz; omega)
  have HI3 := Lib.hid (show PV.In (w3.setRow w.heap.size #[.int .u8 k1, .string S1, .slice ql1 nl1 cl1, .slice qh1 nh1 ch1, .slice qz1 nz1 cz1]) ⟨k1, S1, ql1, nl1, cl1, qh1, nh1, ch1, qz1, nz1, cz1, d⟩ from PV.In.same hI (by simp) (fun j hj => setRow_other _ _ _ _ (by have := HA3.out j hj; omega)))
  have HD4 := Lib.hid (HD3.out.setBox #[.int .u8 k1, .string S1, .slice ql1 nl1 cl1, .slice qh1 nh1 ch1, .slice qz1 nz1 cz1])
  have HO4 := Lib.hid (show OwnR strE W2.heap.size (w3.setRow w.heap.size #[.int .u8 k1, .string S1, .slice ql1 nl1 cl1, .slice qh1 nh1 ch1, .slice qz1 nz1 cz1]) (.slice ql1 nl1 cl1) d.l from OwnR.same ho (fun k hk => setRow_other _ _ _ _ (by have := (OwnR.blt ho k hk).1; have := HD.out.sz; omega)))
  have HB4 := Lib.hid (show w.heap.size + 1 + 1 ≤ W2.heap.size ∧ W2.heap.size ≤ (w3.setRow w.heap.size #[.int .u8 k1, .string S1, .slice ql1 nl1 cl1, .slice qh1 nh1 ch1, .slice qz1 nz1 cz1]).heap.size from ⟨HD.out.sz, by simpa using hb3.size⟩)
  generalize W2.heap.size = B at HO4 HB4
  clear hb3 hI ha ho CO HD
  go_upto_region 4 with (with_reducible refine wpList_store_row rfl 26 (.tmp 2) (.tmp 11) rfl w.heap.size #[.int .u8 k1, .string S1, .slice ql1 nl1 cl1, .slice qh1 nh1 ch1, .slice qz1 nz1 cz1] rfl rfl 26 _ HD3.out.bx HCs.out rfl HOn.out ?_)
  clear HD3
  generalize w3.setRow w.heap.size #[.int .u8 k1, .string S1, .slice ql1 nl1 cl1, .slice qh1 nh1 ch1, .slice qz1 nz1 cz1] = w4 at HD4 HI3 HO4 HB4 ⊢
  have hc4 := HC.out _ HD4.out.bl
  have hc4a := HC.out _ (HD4.out.bl.alloc HD4.out.bl.size (.cells #[.int .i64 0, .nilFunc] 56))
  have hc4b := HC.out _ (HD4.out.bl.drew.alloc HD4.out.bl.size (.cells #[.int .i64 0, .nilFunc] 56))
  have HQ4 := Lib.hid (pv_lt HI3.out)
  have HQO := Lib.hid (OwnR.blt HO4.out)
  have HS4 := Lib.hid HD4.out.sz
  go_cut [6, 7] (fun s6 s7 wx => ∃ gd b1 b2, s6 = .pointer (some ⟨gd, 0, none⟩) ∧ s7 = .bool true ∧ Hid (Fnd w wx gd m fu (cap b1 b2) b1 b2 #[.int .u8 k1, .string S1, .slice ql1 nl1 cl1, .slice qh1 nh1 ch1, .slice qz1 nz1 cz1] #[.int .u8 0, .string ⟨#[]⟩, .slice none 0 0, .slice none 0 0, .slice none 0 0] ⟨k1, S1, ql1, nl1, cl1, qh1, nh1, ch1, qz1, nz1, cz1, d⟩ B))
  case first =>
   go_region_law (first
    | (go_simp; (with_reducible refine (CD.out _).mono ?_); rintro e w5 ⟨bm, b1, b2, rfl, hM, hx1, hx2, hb5⟩; dsimp only
       have HX5 := Lib.hid (show Bxs w5 b1 b2 from ⟨hx1, hx2⟩)
       clear hx1 hx2
       have hb5' : Below w4.heap.size w4 w5 := by first | exact hb5 | exact b_dr hb5 | exact b_al hb5 | exact b_da hb5
       have HM5 := Lib.hid hM
       have HD5 := Lib.hid (HD4.out.keep hb5')
       have HI5 := Lib.hid (pv_keep HI3.out hb5')
       have HO5 := Lib.hid (HO4.out.keep hb5')
       have HBs5 := Lib.hid (Nat.le_trans HB4.out.2 hb5'.size)
       have hc5 := HC.out _ HD5.out.bl
       have hc5a := HC.out _ (HD5.out.bl.alloc HD5.out.bl.size (.cells #[.int .i64 0, .nilFunc] 56))
       first
         | (have HZ5 := Lib.hid (show DZ w5 w4.heap.size from dz_al hb5); have HL5 := Lib.hid hb5'.size)
         | (have HZ5 := Lib.hid (show DZ w5 w4.heap.size from dz_da hb5); have HL5 := Lib.hid hb5'.size)
         | (have HL5 := Lib.hid hb5'.size)
       clear hM hb5 hb5')
    | (go_simp; (with_reducible refine (CL.out _).mono ?_); rintro e w6 ⟨rfl, hb6⟩; dsimp only
       have hb6' : Below w5.heap.size w5 w6 := by first | exact hb6 | exact b_dr hb6 | exact b_al hb6 | exact b_da hb6
       have HM6 := Lib.hid (HM5.out.keep hb6')
       have hlk := HLk.out b1 b2 w6 _ HM6.out
       have hlk2 := HLk.out b1 b2 _ _ (HM6.out.keep (Kit.below1 w6 (.cells #[.int .i64 0, .nilFunc] 56)))
       have HD6 := Lib.hid (HD5.out.keep hb6')
       have HI6 := Lib.hid (pv_keep HI5.out hb6')
       have HO6 := Lib.hid (HO5.out.keep hb6')
       have HBs6 := Lib.hid (Nat.le_trans HBs5.out hb6'.size)
       have HX6 := Lib.hid (HX5.out.keep hb6')
       first
         | (have HF := Lib.hid (show Fnd w (dset w6 w4.heap.size m fu (cap b1 b2)) w4.heap.size m fu (cap b1 b2) b1 b2 _ _ _ B from fnd_set (HZ5.out.keep hb6') (by have := HS4.out; omega) HQ4.out HQO.out HD6.out HI6.out HO6.out HBs6.out HX6.out)
            have hzc := HZ5.out.keep hb6'
            obtain ⟨z0, z1, y0, y1⟩ := dz_facts hzc
            clear hzc)
         | (have hzc : DZ w6 w5.heap.size := by first | exact dz_al hb6 | exact dz_da hb6
            have HF := Lib.hid (show Fnd w (dset w6 w5.heap.size m fu (cap b1 b2)) w5.heap.size m fu (cap b1 b2) b1 b2 _ _ _ B from fnd_set hzc (by have := HS4.out; have := HL5.out; omega) (fun j hj => Nat.lt_of_lt_of_le (HQ4.out j hj) HL5.out) (fun k hk => ⟨(HQO.out k hk).1, Nat.lt_of_lt_of_le (HQO.out k hk).2 HL5.out⟩) HD6.out HI6.out HO6.out HBs6.out HX6.out)
            obtain ⟨z0, z1, y0, y1⟩ := dz_facts hzc
            clear hzc)
         | (have HF := Lib.hid (fnd_al (m := m) (fu := fu) (cap := cap b1 b2) HD6.out HI6.out HO6.out HBs6.out HX6.out))
       clear hb6 hb6'))
   all_goals
    go_wp2_with fail
    go_meet
    exact ⟨_, _, _, rfl, rfl, HF⟩
  case rest =>
  obtain ⟨gd, b1, b2, rfl, rfl, HF⟩ := hcut
  clear HD4 HI3 HO4 hc4 hc4a hc4b HQ4 HQO HS4 CD CL HLk HC
  rename World => W2
  have HD := Lib.hid HF.out.db
  have HI := Lib.hid HF.out.pv
  have HO := Lib.hid HF.out.ow
  have HBs := Lib.hid HF.out.sz
  have d0 := HF.out.d0
  have d1 := HF.out.d1
  have HBx := Lib.hid HF.out.bx
  have HGl := Lib.hid HF.out.gl
  clear HF
  obtain ⟨-, -, m0, m1, m2, m3, m4⟩ := HD.out.room
  have hK : k1 = (d.kind : Int) := VIn.ek HI.out
  have CH := Lib.hid (fun W => holds_any k1 (.string S1) (.slice ql1 nl1 cl1) (.slice qh1 nh1 ch1) (.slice qz1 nz1 cz1) W true (Or.inl ⟨by rw [hK]; have := HK.out; omega, rfl⟩))
  clear hK
  go_wp2_with fail
  with_reducible refine (CH.out _).mono ?_
  rintro e W3 ⟨rfl, hb3⟩
  have d0 := (hb3.cell (p := ⟨gd, 0, none⟩) HGl.out).trans d0
  have d1 := (hb3.cell (p := ⟨gd, 1, none⟩) HGl.out).trans d1
  have HD := Lib.hid (HD.out.keep hb3)
  have HI := Lib.hid (pv_keep HI.out hb3)
  have HO := Lib.hid (HO.out.keep hb3)
  have HBx := Lib.hid (HBx.out.keep hb3)
  have HBs := Lib.hid (Nat.le_trans HBs.out hb3.size)
  clear m0 m1 m2 m3 m4 hb3 CH HGl
  obtain ⟨-, -, m0, m1, m2, m3, m4⟩ := HD.out.room
  obtain ⟨w0, hws, hd0, hb0⟩ := db_cut HD.out B HB4.out.1 HBs.out
  subst hws
  have HD0 := Lib.hid hd0
  have HRI := Lib.hid (show RowI w0 W3 ql1 nl1 cl1 d.l from ⟨hb0, HO.out, VIn.ll HI.out, HT.out.1, VIn.fl HI.out⟩)
  have HWS := Lib.hid (show WS w0 pw (n - 2) (c - 2) (L.drop 2) from ⟨HN.out.1, HN.out.2.1, by rw [HPW.out]; exact StrT.Ss.drop (HSt.out _ hd0.bl) 2 (by rw [HN.out.2.2.2.1]; exact HN.out.2.2.2.2) c (by rw [HN.out.2.2.2.1]; exact HN.out.2.2.1)⟩)
  have C := Lib.hid (hF w0 W3 ql1 nl1 cl1 d.l pw (n - 2) (c - 2) (L.drop 2) b1 b2 HRI.out HWS.out (HG0.out.keep hd0.bl) HBx.out HT.out)
  have C' := Lib.hid (hF w0 W3.drew ql1 nl1 cl1 d.l pw (n - 2) (c - 2) (L.drop 2) b1 b2 (by have h := HRI.out; exact ⟨h.bl.drew, h.ow, h.ln, h.up, h.lm⟩) HWS.out (HG0.out.keep hd0.bl) (by have h := HBx.out; exact ⟨h.x1, h.x2⟩) HT.out)
  obtain ⟨Z, hZ⟩ : ∃ Z, Z = rowD i d.l (L.drop 2) := ⟨_, rfl⟩
  rw [← hZ] at C C'
  have HZ := Lib.hid hZ
  clear hZ hd0 hb0 HK HT HN HG HSt HPW HRI HO HI HA3 HWS HBx
  go_wp2_with fail
  go_region_law (first
    | (go_simp; (with_reducible refine (by first | exact C.out | exact C'.out : Calls _ _ _ _ _).mono ?_); rintro e w5 ⟨q5, n5, c5, vr, rfl, hR5, g7⟩; dsimp only
       have HL5 := Lib.hid (set_any q5 n5 c5 Z.1 w5 hR5.ln hR5.caps.1 hR5.caps.2.1 hR5.caps.2.2 hR5.rs hR5.lm)
       have HD5 := Lib.hid (HD0.out.keep hR5.bl)
       have HA5 := Lib.hid g7
       have HQ5 := Lib.hid hR5.qlt
       clear hR5 g7))
  all_goals
    go_wp2_with fail
    with_reducible refine HL5.out.mono ?_
    rintro e w6 ⟨p2, rfl, hI2, hd2, ha2, hb6⟩
    obtain ⟨k2, S2, ql2, nl2, cl2, qh2, nh2, ch2, qz2, nz2, cz2, d2⟩ := p2
    dsimp only [PV.agg]
    have HD6 := Lib.hid (HD5.out.keep hb6)
    have HA6 := Lib.hid (HA5.out.keep hb6)
    have HI6 := Lib.hid hI2
    have HE6 := Lib.hid (show d2 = _ from hd2)
    have HT6 := Lib.hid ha2
    have HSz := Lib.hid HD0.out.sz
    have HCs2 := Lib.hid (show (Tryd.prog.info? 26).map (·.size) = some (#[.int .u8 k2, .string S2, .slice ql2 nl2 cl2, .slice qh2 nh2 ch2, .slice qz2 nz2 cz2] : Array Value).size from val_size)
    have HOn2 := Lib.hid (show (#[.int .u8 k2, .string S2, .slice ql2 nl2 cl2, .slice qh2 nh2 ch2, .slice qz2 nz2 cz2] : Array Value).all (·.oneCell') = true by simp [Value.oneCell'])
    clear hb6 hI2 hd2 ha2 HL5 HD5 HA5
    go_wp2_with (with_reducible refine wpList_store_row rfl 26 (.tmp 4) (.tmp 51) rfl (w.heap.size + 1) #[.int .u8 k2, .string S2, .slice ql2 nl2 cl2, .slice qh2 nh2 ch2, .slice qz2 nz2 cz2] rfl rfl 26 _ HD6.out.re HCs2.out rfl HOn2.out ?_)
    exact bodyPost_ret (results_cell_slot rfl _ _ (w.heap.size + 1) 26 #[.int .u8 k2, .string S2, .slice ql2 nl2 cl2, .slice qh2 nh2 ch2, .slice qz2 nz2 cz2] (0, 0) _ vr rfl (setRow_heap w6 (w.heap.size + 1) _ _ _ _ HD6.out.re) Tryd.underlying26 rfl HCs2.out rfl) rfl (by rw [← HZ.out]; exact do_row HD6.out ⟨k2, S2, ql2, nl2, cl2, qh2, nh2, ch2, qz2, nz2, cz2, d2⟩ _ _ _ _ vr HI6.out HE6.out (fun j hj => Or.inr (by obtain ⟨a, e, rfl⟩ := HT6.out j hj; have := HQ5.out a e; have := HSz.out; omega)) (fun j hj => by obtain ⟨a, e, rfl⟩ := HT6.out j hj; have := HQ5.out a e; have := HSz.out; omega) HA6.out (by have := HSz.out; omega) _)

end Go.Proofs.YtmdkegamfjkfbaaDoor.SetM
