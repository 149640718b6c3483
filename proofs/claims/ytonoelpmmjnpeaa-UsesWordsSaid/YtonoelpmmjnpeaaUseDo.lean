/-
  The landed code of layer 8: a request's need, out of where its keys and channels stand.
-/
import Derived.Test.YtonoelpmmjnpeaaUsePick3
import Derived.Test.YtonoelpmmjnpeaaUseShapes
import Derived.Deep.WholeRow
namespace Go.Proofs.Ytonoelpmmjnpeaa.UseM
open Go.RowKit Kit StrT UseT TableMath Low MapT RefU
open RefTab (results_cell_slot)
set_option linter.unusedVariables false
set_option maxRecDepth 100000

def NeedP (id : Int) (r z : Bool) (K : List U) (S : List (List UInt8)) (w : World) (e : Ending) (w' : World) : Prop :=
  ∃ vk vc, e = .returned (.agg #[.int .i64 id, vk, .bool r, .bool z, vc]) ∧ AnsU w.heap.size w' vk K ∧ AnsS w.heap.size w' vc S ∧ Below w.heap.size w w'
/-- The three blocks that 'need' makes: what it was given, its answer, the need. -/
structure NB (w W : World) (S Z N : Array Value) : Prop where
  sh : W.heap[w.heap.size]? = some (.cells S 52 (0, 0))
  re : W.heap[w.heap.size + 1]? = some (.cells Z 27 (0, 0))
  nd : W.heap[w.heap.size + 1 + 1]? = some (.cells N 27 (0, 0))
  bl : Below w.heap.size w W
  sz : w.heap.size + 1 + 1 < W.heap.size
theorem NB.new (w : World) (S Z N : Array Value) : NB w (((w.alloc (.cells S 52)).alloc (.cells Z 27)).alloc (.cells N 27)) S Z N where
  sh := by
    rw [Below.heap_alloc _ _ _ (by simp; omega), Below.heap_alloc _ _ _ (by simp)]
    exact heap_alloc_last w _
  re := by
    rw [Below.heap_alloc _ _ _ (by simp)]
    have h := heap_alloc_last (w.alloc (.cells S 52)) (.cells Z 27)
    simpa using h
  nd := by
    have h := heap_alloc_last ((w.alloc (.cells S 52)).alloc (.cells Z 27)) (.cells N 27)
    simpa using h
  bl := ((bel1 w _).alloc (by simp) _).alloc (by simp; omega) _
  sz := by simp
theorem NB.keep {w W W' : World} {S Z N : Array Value} (h : NB w W S Z N) (hb : Below W.heap.size W W') : NB w W' S Z N where
  sh := by rw [hb.block _ (by have := h.sz; omega)]; exact h.sh
  re := by rw [hb.block _ (by have := h.sz; omega)]; exact h.re
  nd := by rw [hb.block _ h.sz]; exact h.nd
  bl := h.bl.trans (hb.mono (by have := h.sz; omega))
  sz := Nat.lt_of_lt_of_le h.sz hb.size
theorem NB.put {w W : World} {S Z N : Array Value} (h : NB w W S Z N) (j : Nat) (v : Value) : NB w (W.setCell ⟨w.heap.size + 1 + 1, j, none⟩ v) S Z (N.setIfInBounds j v) where
  sh := by rw [heap_setCell_other _ _ _ _ (by show _ ≠ w.heap.size + 1 + 1; omega)]; exact h.sh
  re := by rw [heap_setCell_other _ _ _ _ (by show _ ≠ w.heap.size + 1 + 1; omega)]; exact h.re
  nd := heap_setCell_same _ _ _ _ _ _ h.nd
  bl := h.bl.setCell (by show _ ≤ w.heap.size + 1 + 1; omega) v
  sz := by simpa using h.sz
theorem ansU_put {base : Nat} {W : World} {v : Value} {L : List U} {a : Addr} {u : Value} (h : AnsU base W v L) (ha : a.block < base) : AnsU base (W.setCell a u) v L :=
  ansU_high h (fun k hk => heap_setCell_other _ _ _ _ (by omega)) (by simp)
theorem ansS_put {base : Nat} {W : World} {v : Value} {L : List (List UInt8)} {a : Addr} {u : Value} (h : AnsS base W v L) (ha : a.block < base) : AnsS base (W.setCell a u) v L :=
  ansS_high h (fun k hk => heap_setCell_other _ _ _ _ (by omega)) (by simp)
theorem ansU_row {base g : Nat} {W : World} {v : Value} {L : List U} {cs : Array Value} (h : AnsU base W v L) (ha : g < base) : AnsU base (W.setRow g cs) v L :=
  ansU_high h (fun k hk => setRow_other _ _ _ _ (by omega)) (by simp)
theorem ansS_row {base g : Nat} {W : World} {v : Value} {L : List (List UInt8)} {cs : Array Value} (h : AnsS base W v L) (ha : g < base) : AnsS base (W.setRow g cs) v L :=
  ansS_high h (fun k hk => setRow_other _ _ _ _ (by omega)) (by simp)
/-- The end: the need is stored as the answer. -/
theorem need_ends {w W : World} {S Z : Array Value} {id : Int} {vk vc : Value} {r z : Bool} {base : Nat} {K : List U} {L : List (List UInt8)} (hbase : w.heap.size + 1 < base) (h : NB w W S Z #[.int .i64 id, vk, .bool r, .bool z, vc]) (hU : AnsU base W vk K) (hS : AnsS base W vc L) :
    NeedP id r z K L w (.returned (.agg #[.int .i64 id, vk, .bool r, .bool z, vc])) (W.setRow (w.heap.size + 1) #[.int .i64 id, vk, .bool r, .bool z, vc]) :=
  ⟨vk, vc, rfl, ansU_low (ansU_row hU hbase) (by omega), ansS_low (ansS_row hS hbase) (by omega), below_setRow h.bl (by omega) _⟩
theorem need_put2 (id : Int) (vk v vc : Value) (r z : Bool) : (#[.int .i64 id, v, .bool r, .bool z, vc] : Array Value).setIfInBounds 1 vk = #[.int .i64 id, vk, .bool r, .bool z, vc] := rfl

set_option maxHeartbeats 4000000 in
theorem need_readSecond (id : Int) (q : Option Addr) (args : List (List UInt8)) (n c : Nat) (w : World) (H : Args w q args n c) (hn : 2 ≤ n) : Calls Try.prog 26 #[.int .i64 id, shOf 0, .slice q n c] w (NeedP id false false (keysK 0 args) [] w) := by
  have C := Lib.hid (fun W (h : Below w.heap.size w W) => second_read q args n c W (H.keep h) hn)
  have h1 : ∀ W, Sem.run Try.prog (binOp BinOp.neq 50 (.func (.func 36) #[] #[]) .nilFunc) W = .ok (.bool true) W := fun W => by kernel_rfl
  have h2 : ∀ W, Sem.run Try.prog (binOp BinOp.neq 24 .nilFunc .nilFunc) W = .ok (.bool false) W := fun W => by kernel_rfl
  have HNB := Lib.hid (NB.new w #[.func (.func 36) #[] #[], .bool false, .bool false, .nilFunc] #[.int .i64 0, .slice none 0 0, .bool false, .bool false, .slice none 0 0] #[.int .i64 id, .slice none 0 0, .bool false, .bool false, .slice none 0 0])
  show Calls Try.prog 26 #[.int .i64 id, .agg #[.func (.func 36) #[] #[], .bool false, .bool false, .nilFunc], .slice q n c] w _
  generalize keysK 0 args = K at C ⊢
  clear H
  go_enter Try.func26, Try.ntmps26
  go_wp2_with fail
  generalize (((w.alloc _).alloc _).alloc _) = W3 at HNB ⊢
  with_reducible refine (C.out W3 HNB.out.bl).mono ?_
  rintro e w4 ⟨v, rfl, hv, hb4⟩
  have HN4 := Lib.hid (HNB.out.keep hb4)
  have HS3 := Lib.hid HNB.out.sz
  obtain ⟨qk, ck, rfl, hU, hge, hc1, hc2, hc3⟩ := hv.ans
  have HU4 := Lib.hid (show AnsU W3.heap.size w4 (.slice qk K.length ck) K from ⟨qk, ck, rfl, hU, hge, hc1, hc2, hc3⟩)
  clear hv hU hge hc1 hc2 hc3 hb4 C HNB
  generalize hKl : K.length = m at HU4 ⊢
  clear hKl
  have hcell : w4.cell? ⟨w.heap.size + 1 + 1, 1, none⟩ = some (.slice none 0 0) := by rw [cell_of_row _ _ _ _ 27 _ HN4.out.nd]; rfl
  have hfrz : w4.frozen? ⟨w.heap.size + 1 + 1, 1, none⟩ = false := frozen_of_row _ _ _ _ 27 HN4.out.nd
  have HN5 := Lib.hid (show NB w (w4.setCell ⟨w.heap.size + 1 + 1, 1, none⟩ (.slice qk m ck)) _ _ #[.int .i64 id, .slice qk m ck, .bool false, .bool false, .slice none 0 0] from HN4.out.put 1 (.slice qk m ck))
  have HU5 := Lib.hid (show AnsU W3.heap.size (w4.setCell ⟨w.heap.size + 1 + 1, 1, none⟩ (.slice qk m ck)) (.slice qk m ck) K from ansU_put HU4.out (by show w.heap.size + 1 + 1 < _; exact HS3.out))
  have hsh : (w4.setCell ⟨w.heap.size + 1 + 1, 1, none⟩ (.slice qk m ck)).cell? ⟨w.heap.size, 3, none⟩ = some .nilFunc := by rw [cell_of_row _ _ _ _ 52 _ HN5.out.sh]; rfl
  have HCs := Lib.hid (show (Try.prog.info? 27).map (·.size) = some (#[.int .i64 id, .slice qk m ck, .bool false, .bool false, .slice none 0 0] : Array Value).size from need_size)
  have HOn := Lib.hid (show (#[.int .i64 id, .slice qk m ck, .bool false, .bool false, .slice none 0 0] : Array Value).all (·.oneCell') = true by simp [Value.oneCell'])
  have HE := Lib.hid (need_ends (Nat.lt_trans (Nat.lt_succ_self _) HS3.out) HN5.out HU5.out (ansS_nil _ _))
  clear HN4 HU4 HU5
  go_wp2_with (first
    | (with_reducible refine wpList_load_row rfl 27 (.tmp 7) rfl (w.heap.size + 1 + 1) rfl 27 #[.int .i64 id, .slice qk m ck, .bool false, .bool false, .slice none 0 0] (0, 0) _ HN5.out.nd Try.underlying27 rfl HCs.out ?_)
    | (with_reducible refine wpList_store_row rfl 27 (.tmp 6) (.tmp 30) rfl (w.heap.size + 1) #[.int .i64 id, .slice qk m ck, .bool false, .bool false, .slice none 0 0] rfl rfl 27 _ HN5.out.re HCs.out rfl HOn.out ?_))
  exact bodyPost_ret (results_cell_row rfl _ _ (w.heap.size + 1) 27 #[.int .i64 id, .slice qk m ck, .bool false, .bool false, .slice none 0 0] (0, 0) _ rfl (setRow_heap _ (w.heap.size + 1) _ _ _ _ HN5.out.re) Try.underlying27 rfl HCs.out) rfl HE.out

set_option maxHeartbeats 4000000 in
theorem need_set (id : Int) (q : Option Addr) (args : List (List UInt8)) (n c : Nat) (w : World) (H : Args w q args n c) (hn : 2 ≤ n) : Calls Try.prog 26 #[.int .i64 id, shOf 1, .slice q n c] w (NeedP id false false (keysK 1 args) [] w) := by
  have C := Lib.hid (fun W (h : Below w.heap.size w W) => set_any q args n c W (H.keep h) hn)
  have h1 : ∀ W, Sem.run Try.prog (binOp BinOp.neq 50 (.func (.func 37) #[] #[]) .nilFunc) W = .ok (.bool true) W := fun W => by kernel_rfl
  have h2 : ∀ W, Sem.run Try.prog (binOp BinOp.neq 24 .nilFunc .nilFunc) W = .ok (.bool false) W := fun W => by kernel_rfl
  have HNB := Lib.hid (NB.new w #[.func (.func 37) #[] #[], .bool false, .bool false, .nilFunc] #[.int .i64 0, .slice none 0 0, .bool false, .bool false, .slice none 0 0] #[.int .i64 id, .slice none 0 0, .bool false, .bool false, .slice none 0 0])
  show Calls Try.prog 26 #[.int .i64 id, .agg #[.func (.func 37) #[] #[], .bool false, .bool false, .nilFunc], .slice q n c] w _
  generalize keysK 1 args = K at C ⊢
  clear H
  go_enter Try.func26, Try.ntmps26
  go_wp2_with fail
  generalize (((w.alloc _).alloc _).alloc _) = W3 at HNB ⊢
  with_reducible refine (C.out W3 HNB.out.bl).mono ?_
  rintro e w4 ⟨v, rfl, hv, hb4⟩
  have HN4 := Lib.hid (HNB.out.keep hb4)
  have HS3 := Lib.hid HNB.out.sz
  obtain ⟨qk, ck, rfl, hU, hge, hc1, hc2, hc3⟩ := hv.ans
  have HU4 := Lib.hid (show AnsU W3.heap.size w4 (.slice qk K.length ck) K from ⟨qk, ck, rfl, hU, hge, hc1, hc2, hc3⟩)
  clear hv hU hge hc1 hc2 hc3 hb4 C HNB
  generalize hKl : K.length = m at HU4 ⊢
  clear hKl
  have hcell : w4.cell? ⟨w.heap.size + 1 + 1, 1, none⟩ = some (.slice none 0 0) := by rw [cell_of_row _ _ _ _ 27 _ HN4.out.nd]; rfl
  have hfrz : w4.frozen? ⟨w.heap.size + 1 + 1, 1, none⟩ = false := frozen_of_row _ _ _ _ 27 HN4.out.nd
  have HN5 := Lib.hid (show NB w (w4.setCell ⟨w.heap.size + 1 + 1, 1, none⟩ (.slice qk m ck)) _ _ #[.int .i64 id, .slice qk m ck, .bool false, .bool false, .slice none 0 0] from HN4.out.put 1 (.slice qk m ck))
  have HU5 := Lib.hid (show AnsU W3.heap.size (w4.setCell ⟨w.heap.size + 1 + 1, 1, none⟩ (.slice qk m ck)) (.slice qk m ck) K from ansU_put HU4.out (by show w.heap.size + 1 + 1 < _; exact HS3.out))
  have hsh : (w4.setCell ⟨w.heap.size + 1 + 1, 1, none⟩ (.slice qk m ck)).cell? ⟨w.heap.size, 3, none⟩ = some .nilFunc := by rw [cell_of_row _ _ _ _ 52 _ HN5.out.sh]; rfl
  have HCs := Lib.hid (show (Try.prog.info? 27).map (·.size) = some (#[.int .i64 id, .slice qk m ck, .bool false, .bool false, .slice none 0 0] : Array Value).size from need_size)
  have HOn := Lib.hid (show (#[.int .i64 id, .slice qk m ck, .bool false, .bool false, .slice none 0 0] : Array Value).all (·.oneCell') = true by simp [Value.oneCell'])
  have HE := Lib.hid (need_ends (Nat.lt_trans (Nat.lt_succ_self _) HS3.out) HN5.out HU5.out (ansS_nil _ _))
  clear HN4 HU4 HU5
  go_wp2_with (first
    | (with_reducible refine wpList_load_row rfl 27 (.tmp 7) rfl (w.heap.size + 1 + 1) rfl 27 #[.int .i64 id, .slice qk m ck, .bool false, .bool false, .slice none 0 0] (0, 0) _ HN5.out.nd Try.underlying27 rfl HCs.out ?_)
    | (with_reducible refine wpList_store_row rfl 27 (.tmp 6) (.tmp 30) rfl (w.heap.size + 1) #[.int .i64 id, .slice qk m ck, .bool false, .bool false, .slice none 0 0] rfl rfl 27 _ HN5.out.re HCs.out rfl HOn.out ?_))
  exact bodyPost_ret (results_cell_row rfl _ _ (w.heap.size + 1) 27 #[.int .i64 id, .slice qk m ck, .bool false, .bool false, .slice none 0 0] (0, 0) _ rfl (setRow_heap _ (w.heap.size + 1) _ _ _ _ HN5.out.re) Try.underlying27 rfl HCs.out) rfl HE.out

set_option maxHeartbeats 4000000 in
theorem need_changeSecond (id : Int) (q : Option Addr) (args : List (List UInt8)) (n c : Nat) (w : World) (H : Args w q args n c) (hn : 2 ≤ n) : Calls Try.prog 26 #[.int .i64 id, shOf 2, .slice q n c] w (NeedP id false false (keysK 2 args) [] w) := by
  have C := Lib.hid (fun W (h : Below w.heap.size w W) => second_change q args n c W (H.keep h) hn)
  have h1 : ∀ W, Sem.run Try.prog (binOp BinOp.neq 50 (.func (.func 38) #[] #[]) .nilFunc) W = .ok (.bool true) W := fun W => by kernel_rfl
  have h2 : ∀ W, Sem.run Try.prog (binOp BinOp.neq 24 .nilFunc .nilFunc) W = .ok (.bool false) W := fun W => by kernel_rfl
  have HNB := Lib.hid (NB.new w #[.func (.func 38) #[] #[], .bool false, .bool false, .nilFunc] #[.int .i64 0, .slice none 0 0, .bool false, .bool false, .slice none 0 0] #[.int .i64 id, .slice none 0 0, .bool false, .bool false, .slice none 0 0])
  show Calls Try.prog 26 #[.int .i64 id, .agg #[.func (.func 38) #[] #[], .bool false, .bool false, .nilFunc], .slice q n c] w _
  generalize keysK 2 args = K at C ⊢
  clear H
  go_enter Try.func26, Try.ntmps26
  go_wp2_with fail
  generalize (((w.alloc _).alloc _).alloc _) = W3 at HNB ⊢
  with_reducible refine (C.out W3 HNB.out.bl).mono ?_
  rintro e w4 ⟨v, rfl, hv, hb4⟩
  have HN4 := Lib.hid (HNB.out.keep hb4)
  have HS3 := Lib.hid HNB.out.sz
  obtain ⟨qk, ck, rfl, hU, hge, hc1, hc2, hc3⟩ := hv.ans
  have HU4 := Lib.hid (show AnsU W3.heap.size w4 (.slice qk K.length ck) K from ⟨qk, ck, rfl, hU, hge, hc1, hc2, hc3⟩)
  clear hv hU hge hc1 hc2 hc3 hb4 C HNB
  generalize hKl : K.length = m at HU4 ⊢
  clear hKl
  have hcell : w4.cell? ⟨w.heap.size + 1 + 1, 1, none⟩ = some (.slice none 0 0) := by rw [cell_of_row _ _ _ _ 27 _ HN4.out.nd]; rfl
  have hfrz : w4.frozen? ⟨w.heap.size + 1 + 1, 1, none⟩ = false := frozen_of_row _ _ _ _ 27 HN4.out.nd
  have HN5 := Lib.hid (show NB w (w4.setCell ⟨w.heap.size + 1 + 1, 1, none⟩ (.slice qk m ck)) _ _ #[.int .i64 id, .slice qk m ck, .bool false, .bool false, .slice none 0 0] from HN4.out.put 1 (.slice qk m ck))
  have HU5 := Lib.hid (show AnsU W3.heap.size (w4.setCell ⟨w.heap.size + 1 + 1, 1, none⟩ (.slice qk m ck)) (.slice qk m ck) K from ansU_put HU4.out (by show w.heap.size + 1 + 1 < _; exact HS3.out))
  have hsh : (w4.setCell ⟨w.heap.size + 1 + 1, 1, none⟩ (.slice qk m ck)).cell? ⟨w.heap.size, 3, none⟩ = some .nilFunc := by rw [cell_of_row _ _ _ _ 52 _ HN5.out.sh]; rfl
  have HCs := Lib.hid (show (Try.prog.info? 27).map (·.size) = some (#[.int .i64 id, .slice qk m ck, .bool false, .bool false, .slice none 0 0] : Array Value).size from need_size)
  have HOn := Lib.hid (show (#[.int .i64 id, .slice qk m ck, .bool false, .bool false, .slice none 0 0] : Array Value).all (·.oneCell') = true by simp [Value.oneCell'])
  have HE := Lib.hid (need_ends (Nat.lt_trans (Nat.lt_succ_self _) HS3.out) HN5.out HU5.out (ansS_nil _ _))
  clear HN4 HU4 HU5
  go_wp2_with (first
    | (with_reducible refine wpList_load_row rfl 27 (.tmp 7) rfl (w.heap.size + 1 + 1) rfl 27 #[.int .i64 id, .slice qk m ck, .bool false, .bool false, .slice none 0 0] (0, 0) _ HN5.out.nd Try.underlying27 rfl HCs.out ?_)
    | (with_reducible refine wpList_store_row rfl 27 (.tmp 6) (.tmp 30) rfl (w.heap.size + 1) #[.int .i64 id, .slice qk m ck, .bool false, .bool false, .slice none 0 0] rfl rfl 27 _ HN5.out.re HCs.out rfl HOn.out ?_))
  exact bodyPost_ret (results_cell_row rfl _ _ (w.heap.size + 1) 27 #[.int .i64 id, .slice qk m ck, .bool false, .bool false, .slice none 0 0] (0, 0) _ rfl (setRow_heap _ (w.heap.size + 1) _ _ _ _ HN5.out.re) Try.underlying27 rfl HCs.out) rfl HE.out

set_option maxHeartbeats 4000000 in
theorem need_readAll (id : Int) (q : Option Addr) (args : List (List UInt8)) (n c : Nat) (w : World) (H : Args w q args n c) (hn : 1 ≤ n) : Calls Try.prog 26 #[.int .i64 id, shOf 3, .slice q n c] w (NeedP id false false (keysK 3 args) [] w) := by
  have C := Lib.hid (fun W (h : Below w.heap.size w W) => all_read q args n c W (H.keep h) hn)
  have h1 : ∀ W, Sem.run Try.prog (binOp BinOp.neq 50 (.func (.func 39) #[] #[]) .nilFunc) W = .ok (.bool true) W := fun W => by kernel_rfl
  have h2 : ∀ W, Sem.run Try.prog (binOp BinOp.neq 24 .nilFunc .nilFunc) W = .ok (.bool false) W := fun W => by kernel_rfl
  have HNB := Lib.hid (NB.new w #[.func (.func 39) #[] #[], .bool false, .bool false, .nilFunc] #[.int .i64 0, .slice none 0 0, .bool false, .bool false, .slice none 0 0] #[.int .i64 id, .slice none 0 0, .bool false, .bool false, .slice none 0 0])
  show Calls Try.prog 26 #[.int .i64 id, .agg #[.func (.func 39) #[] #[], .bool false, .bool false, .nilFunc], .slice q n c] w _
  generalize keysK 3 args = K at C ⊢
  clear H
  go_enter Try.func26, Try.ntmps26
  go_wp2_with fail
  generalize (((w.alloc _).alloc _).alloc _) = W3 at HNB ⊢
  with_reducible refine (C.out W3 HNB.out.bl).mono ?_
  rintro e w4 ⟨v, rfl, hv, hb4⟩
  have HN4 := Lib.hid (HNB.out.keep hb4)
  have HS3 := Lib.hid HNB.out.sz
  obtain ⟨qk, ck, rfl, hU, hge, hc1, hc2, hc3⟩ := hv.ans
  have HU4 := Lib.hid (show AnsU W3.heap.size w4 (.slice qk K.length ck) K from ⟨qk, ck, rfl, hU, hge, hc1, hc2, hc3⟩)
  clear hv hU hge hc1 hc2 hc3 hb4 C HNB
  generalize hKl : K.length = m at HU4 ⊢
  clear hKl
  have hcell : w4.cell? ⟨w.heap.size + 1 + 1, 1, none⟩ = some (.slice none 0 0) := by rw [cell_of_row _ _ _ _ 27 _ HN4.out.nd]; rfl
  have hfrz : w4.frozen? ⟨w.heap.size + 1 + 1, 1, none⟩ = false := frozen_of_row _ _ _ _ 27 HN4.out.nd
  have HN5 := Lib.hid (show NB w (w4.setCell ⟨w.heap.size + 1 + 1, 1, none⟩ (.slice qk m ck)) _ _ #[.int .i64 id, .slice qk m ck, .bool false, .bool false, .slice none 0 0] from HN4.out.put 1 (.slice qk m ck))
  have HU5 := Lib.hid (show AnsU W3.heap.size (w4.setCell ⟨w.heap.size + 1 + 1, 1, none⟩ (.slice qk m ck)) (.slice qk m ck) K from ansU_put HU4.out (by show w.heap.size + 1 + 1 < _; exact HS3.out))
  have hsh : (w4.setCell ⟨w.heap.size + 1 + 1, 1, none⟩ (.slice qk m ck)).cell? ⟨w.heap.size, 3, none⟩ = some .nilFunc := by rw [cell_of_row _ _ _ _ 52 _ HN5.out.sh]; rfl
  have HCs := Lib.hid (show (Try.prog.info? 27).map (·.size) = some (#[.int .i64 id, .slice qk m ck, .bool false, .bool false, .slice none 0 0] : Array Value).size from need_size)
  have HOn := Lib.hid (show (#[.int .i64 id, .slice qk m ck, .bool false, .bool false, .slice none 0 0] : Array Value).all (·.oneCell') = true by simp [Value.oneCell'])
  have HE := Lib.hid (need_ends (Nat.lt_trans (Nat.lt_succ_self _) HS3.out) HN5.out HU5.out (ansS_nil _ _))
  clear HN4 HU4 HU5
  go_wp2_with (first
    | (with_reducible refine wpList_load_row rfl 27 (.tmp 7) rfl (w.heap.size + 1 + 1) rfl 27 #[.int .i64 id, .slice qk m ck, .bool false, .bool false, .slice none 0 0] (0, 0) _ HN5.out.nd Try.underlying27 rfl HCs.out ?_)
    | (with_reducible refine wpList_store_row rfl 27 (.tmp 6) (.tmp 30) rfl (w.heap.size + 1) #[.int .i64 id, .slice qk m ck, .bool false, .bool false, .slice none 0 0] rfl rfl 27 _ HN5.out.re HCs.out rfl HOn.out ?_))
  exact bodyPost_ret (results_cell_row rfl _ _ (w.heap.size + 1) 27 #[.int .i64 id, .slice qk m ck, .bool false, .bool false, .slice none 0 0] (0, 0) _ rfl (setRow_heap _ (w.heap.size + 1) _ _ _ _ HN5.out.re) Try.underlying27 rfl HCs.out) rfl HE.out

set_option maxHeartbeats 4000000 in
theorem need_mset (id : Int) (q : Option Addr) (args : List (List UInt8)) (n c : Nat) (w : World) (H : Args w q args n c) (hn : 1 ≤ n) : Calls Try.prog 26 #[.int .i64 id, shOf 4, .slice q n c] w (NeedP id false false (keysK 4 args) [] w) := by
  have C := Lib.hid (fun W (h : Below w.heap.size w W) => mset_any q args n c W (H.keep h) hn)
  have h1 : ∀ W, Sem.run Try.prog (binOp BinOp.neq 50 (.func (.func 40) #[] #[]) .nilFunc) W = .ok (.bool true) W := fun W => by kernel_rfl
  have h2 : ∀ W, Sem.run Try.prog (binOp BinOp.neq 24 .nilFunc .nilFunc) W = .ok (.bool false) W := fun W => by kernel_rfl
  have HNB := Lib.hid (NB.new w #[.func (.func 40) #[] #[], .bool false, .bool false, .nilFunc] #[.int .i64 0, .slice none 0 0, .bool false, .bool false, .slice none 0 0] #[.int .i64 id, .slice none 0 0, .bool false, .bool false, .slice none 0 0])
  show Calls Try.prog 26 #[.int .i64 id, .agg #[.func (.func 40) #[] #[], .bool false, .bool false, .nilFunc], .slice q n c] w _
  generalize keysK 4 args = K at C ⊢
  clear H
  go_enter Try.func26, Try.ntmps26
  go_wp2_with fail
  generalize (((w.alloc _).alloc _).alloc _) = W3 at HNB ⊢
  with_reducible refine (C.out W3 HNB.out.bl).mono ?_
  rintro e w4 ⟨v, rfl, hv, hb4⟩
  have HN4 := Lib.hid (HNB.out.keep hb4)
  have HS3 := Lib.hid HNB.out.sz
  obtain ⟨qk, ck, rfl, hU, hge, hc1, hc2, hc3⟩ := hv.ans
  have HU4 := Lib.hid (show AnsU W3.heap.size w4 (.slice qk K.length ck) K from ⟨qk, ck, rfl, hU, hge, hc1, hc2, hc3⟩)
  clear hv hU hge hc1 hc2 hc3 hb4 C HNB
  generalize hKl : K.length = m at HU4 ⊢
  clear hKl
  have hcell : w4.cell? ⟨w.heap.size + 1 + 1, 1, none⟩ = some (.slice none 0 0) := by rw [cell_of_row _ _ _ _ 27 _ HN4.out.nd]; rfl
  have hfrz : w4.frozen? ⟨w.heap.size + 1 + 1, 1, none⟩ = false := frozen_of_row _ _ _ _ 27 HN4.out.nd
  have HN5 := Lib.hid (show NB w (w4.setCell ⟨w.heap.size + 1 + 1, 1, none⟩ (.slice qk m ck)) _ _ #[.int .i64 id, .slice qk m ck, .bool false, .bool false, .slice none 0 0] from HN4.out.put 1 (.slice qk m ck))
  have HU5 := Lib.hid (show AnsU W3.heap.size (w4.setCell ⟨w.heap.size + 1 + 1, 1, none⟩ (.slice qk m ck)) (.slice qk m ck) K from ansU_put HU4.out (by show w.heap.size + 1 + 1 < _; exact HS3.out))
  have hsh : (w4.setCell ⟨w.heap.size + 1 + 1, 1, none⟩ (.slice qk m ck)).cell? ⟨w.heap.size, 3, none⟩ = some .nilFunc := by rw [cell_of_row _ _ _ _ 52 _ HN5.out.sh]; rfl
  have HCs := Lib.hid (show (Try.prog.info? 27).map (·.size) = some (#[.int .i64 id, .slice qk m ck, .bool false, .bool false, .slice none 0 0] : Array Value).size from need_size)
  have HOn := Lib.hid (show (#[.int .i64 id, .slice qk m ck, .bool false, .bool false, .slice none 0 0] : Array Value).all (·.oneCell') = true by simp [Value.oneCell'])
  have HE := Lib.hid (need_ends (Nat.lt_trans (Nat.lt_succ_self _) HS3.out) HN5.out HU5.out (ansS_nil _ _))
  clear HN4 HU4 HU5
  go_wp2_with (first
    | (with_reducible refine wpList_load_row rfl 27 (.tmp 7) rfl (w.heap.size + 1 + 1) rfl 27 #[.int .i64 id, .slice qk m ck, .bool false, .bool false, .slice none 0 0] (0, 0) _ HN5.out.nd Try.underlying27 rfl HCs.out ?_)
    | (with_reducible refine wpList_store_row rfl 27 (.tmp 6) (.tmp 30) rfl (w.heap.size + 1) #[.int .i64 id, .slice qk m ck, .bool false, .bool false, .slice none 0 0] rfl rfl 27 _ HN5.out.re HCs.out rfl HOn.out ?_))
  exact bodyPost_ret (results_cell_row rfl _ _ (w.heap.size + 1) 27 #[.int .i64 id, .slice qk m ck, .bool false, .bool false, .slice none 0 0] (0, 0) _ rfl (setRow_heap _ (w.heap.size + 1) _ _ _ _ HN5.out.re) Try.underlying27 rfl HCs.out) rfl HE.out

set_option maxHeartbeats 4000000 in
theorem need_changeBoth (id : Int) (q : Option Addr) (args : List (List UInt8)) (n c : Nat) (w : World) (H : Args w q args n c) (hn : 3 ≤ n) : Calls Try.prog 26 #[.int .i64 id, shOf 5, .slice q n c] w (NeedP id false false (keysK 5 args) [] w) := by
  have C := Lib.hid (fun W (h : Below w.heap.size w W) => both_change q args n c W (H.keep h) hn)
  have h1 : ∀ W, Sem.run Try.prog (binOp BinOp.neq 50 (.func (.func 41) #[] #[]) .nilFunc) W = .ok (.bool true) W := fun W => by kernel_rfl
  have h2 : ∀ W, Sem.run Try.prog (binOp BinOp.neq 24 .nilFunc .nilFunc) W = .ok (.bool false) W := fun W => by kernel_rfl
  have HNB := Lib.hid (NB.new w #[.func (.func 41) #[] #[], .bool false, .bool false, .nilFunc] #[.int .i64 0, .slice none 0 0, .bool false, .bool false, .slice none 0 0] #[.int .i64 id, .slice none 0 0, .bool false, .bool false, .slice none 0 0])
  show Calls Try.prog 26 #[.int .i64 id, .agg #[.func (.func 41) #[] #[], .bool false, .bool false, .nilFunc], .slice q n c] w _
  generalize keysK 5 args = K at C ⊢
  clear H
  go_enter Try.func26, Try.ntmps26
  go_wp2_with fail
  generalize (((w.alloc _).alloc _).alloc _) = W3 at HNB ⊢
  with_reducible refine (C.out W3 HNB.out.bl).mono ?_
  rintro e w4 ⟨v, rfl, hv, hb4⟩
  have HN4 := Lib.hid (HNB.out.keep hb4)
  have HS3 := Lib.hid HNB.out.sz
  obtain ⟨qk, ck, rfl, hU, hge, hc1, hc2, hc3⟩ := hv.ans
  have HU4 := Lib.hid (show AnsU W3.heap.size w4 (.slice qk K.length ck) K from ⟨qk, ck, rfl, hU, hge, hc1, hc2, hc3⟩)
  clear hv hU hge hc1 hc2 hc3 hb4 C HNB
  generalize hKl : K.length = m at HU4 ⊢
  clear hKl
  have hcell : w4.cell? ⟨w.heap.size + 1 + 1, 1, none⟩ = some (.slice none 0 0) := by rw [cell_of_row _ _ _ _ 27 _ HN4.out.nd]; rfl
  have hfrz : w4.frozen? ⟨w.heap.size + 1 + 1, 1, none⟩ = false := frozen_of_row _ _ _ _ 27 HN4.out.nd
  have HN5 := Lib.hid (show NB w (w4.setCell ⟨w.heap.size + 1 + 1, 1, none⟩ (.slice qk m ck)) _ _ #[.int .i64 id, .slice qk m ck, .bool false, .bool false, .slice none 0 0] from HN4.out.put 1 (.slice qk m ck))
  have HU5 := Lib.hid (show AnsU W3.heap.size (w4.setCell ⟨w.heap.size + 1 + 1, 1, none⟩ (.slice qk m ck)) (.slice qk m ck) K from ansU_put HU4.out (by show w.heap.size + 1 + 1 < _; exact HS3.out))
  have hsh : (w4.setCell ⟨w.heap.size + 1 + 1, 1, none⟩ (.slice qk m ck)).cell? ⟨w.heap.size, 3, none⟩ = some .nilFunc := by rw [cell_of_row _ _ _ _ 52 _ HN5.out.sh]; rfl
  have HCs := Lib.hid (show (Try.prog.info? 27).map (·.size) = some (#[.int .i64 id, .slice qk m ck, .bool false, .bool false, .slice none 0 0] : Array Value).size from need_size)
  have HOn := Lib.hid (show (#[.int .i64 id, .slice qk m ck, .bool false, .bool false, .slice none 0 0] : Array Value).all (·.oneCell') = true by simp [Value.oneCell'])
  have HE := Lib.hid (need_ends (Nat.lt_trans (Nat.lt_succ_self _) HS3.out) HN5.out HU5.out (ansS_nil _ _))
  clear HN4 HU4 HU5
  go_wp2_with (first
    | (with_reducible refine wpList_load_row rfl 27 (.tmp 7) rfl (w.heap.size + 1 + 1) rfl 27 #[.int .i64 id, .slice qk m ck, .bool false, .bool false, .slice none 0 0] (0, 0) _ HN5.out.nd Try.underlying27 rfl HCs.out ?_)
    | (with_reducible refine wpList_store_row rfl 27 (.tmp 6) (.tmp 30) rfl (w.heap.size + 1) #[.int .i64 id, .slice qk m ck, .bool false, .bool false, .slice none 0 0] rfl rfl 27 _ HN5.out.re HCs.out rfl HOn.out ?_))
  exact bodyPost_ret (results_cell_row rfl _ _ (w.heap.size + 1) 27 #[.int .i64 id, .slice qk m ck, .bool false, .bool false, .slice none 0 0] (0, 0) _ rfl (setRow_heap _ (w.heap.size + 1) _ _ _ _ HN5.out.re) Try.underlying27 rfl HCs.out) rfl HE.out

set_option maxHeartbeats 4000000 in
theorem need_changeAll (id : Int) (q : Option Addr) (args : List (List UInt8)) (n c : Nat) (w : World) (H : Args w q args n c) (hn : 1 ≤ n) : Calls Try.prog 26 #[.int .i64 id, shOf 6, .slice q n c] w (NeedP id false false (keysK 6 args) [] w) := by
  have C := Lib.hid (fun W (h : Below w.heap.size w W) => all_change q args n c W (H.keep h) hn)
  have h1 : ∀ W, Sem.run Try.prog (binOp BinOp.neq 50 (.func (.func 42) #[] #[]) .nilFunc) W = .ok (.bool true) W := fun W => by kernel_rfl
  have h2 : ∀ W, Sem.run Try.prog (binOp BinOp.neq 24 .nilFunc .nilFunc) W = .ok (.bool false) W := fun W => by kernel_rfl
  have HNB := Lib.hid (NB.new w #[.func (.func 42) #[] #[], .bool false, .bool false, .nilFunc] #[.int .i64 0, .slice none 0 0, .bool false, .bool false, .slice none 0 0] #[.int .i64 id, .slice none 0 0, .bool false, .bool false, .slice none 0 0])
  show Calls Try.prog 26 #[.int .i64 id, .agg #[.func (.func 42) #[] #[], .bool false, .bool false, .nilFunc], .slice q n c] w _
  generalize keysK 6 args = K at C ⊢
  clear H
  go_enter Try.func26, Try.ntmps26
  go_wp2_with fail
  generalize (((w.alloc _).alloc _).alloc _) = W3 at HNB ⊢
  with_reducible refine (C.out W3 HNB.out.bl).mono ?_
  rintro e w4 ⟨v, rfl, hv, hb4⟩
  have HN4 := Lib.hid (HNB.out.keep hb4)
  have HS3 := Lib.hid HNB.out.sz
  obtain ⟨qk, ck, rfl, hU, hge, hc1, hc2, hc3⟩ := hv.ans
  have HU4 := Lib.hid (show AnsU W3.heap.size w4 (.slice qk K.length ck) K from ⟨qk, ck, rfl, hU, hge, hc1, hc2, hc3⟩)
  clear hv hU hge hc1 hc2 hc3 hb4 C HNB
  generalize hKl : K.length = m at HU4 ⊢
  clear hKl
  have hcell : w4.cell? ⟨w.heap.size + 1 + 1, 1, none⟩ = some (.slice none 0 0) := by rw [cell_of_row _ _ _ _ 27 _ HN4.out.nd]; rfl
  have hfrz : w4.frozen? ⟨w.heap.size + 1 + 1, 1, none⟩ = false := frozen_of_row _ _ _ _ 27 HN4.out.nd
  have HN5 := Lib.hid (show NB w (w4.setCell ⟨w.heap.size + 1 + 1, 1, none⟩ (.slice qk m ck)) _ _ #[.int .i64 id, .slice qk m ck, .bool false, .bool false, .slice none 0 0] from HN4.out.put 1 (.slice qk m ck))
  have HU5 := Lib.hid (show AnsU W3.heap.size (w4.setCell ⟨w.heap.size + 1 + 1, 1, none⟩ (.slice qk m ck)) (.slice qk m ck) K from ansU_put HU4.out (by show w.heap.size + 1 + 1 < _; exact HS3.out))
  have hsh : (w4.setCell ⟨w.heap.size + 1 + 1, 1, none⟩ (.slice qk m ck)).cell? ⟨w.heap.size, 3, none⟩ = some .nilFunc := by rw [cell_of_row _ _ _ _ 52 _ HN5.out.sh]; rfl
  have HCs := Lib.hid (show (Try.prog.info? 27).map (·.size) = some (#[.int .i64 id, .slice qk m ck, .bool false, .bool false, .slice none 0 0] : Array Value).size from need_size)
  have HOn := Lib.hid (show (#[.int .i64 id, .slice qk m ck, .bool false, .bool false, .slice none 0 0] : Array Value).all (·.oneCell') = true by simp [Value.oneCell'])
  have HE := Lib.hid (need_ends (Nat.lt_trans (Nat.lt_succ_self _) HS3.out) HN5.out HU5.out (ansS_nil _ _))
  clear HN4 HU4 HU5
  go_wp2_with (first
    | (with_reducible refine wpList_load_row rfl 27 (.tmp 7) rfl (w.heap.size + 1 + 1) rfl 27 #[.int .i64 id, .slice qk m ck, .bool false, .bool false, .slice none 0 0] (0, 0) _ HN5.out.nd Try.underlying27 rfl HCs.out ?_)
    | (with_reducible refine wpList_store_row rfl 27 (.tmp 6) (.tmp 30) rfl (w.heap.size + 1) #[.int .i64 id, .slice qk m ck, .bool false, .bool false, .slice none 0 0] rfl rfl 27 _ HN5.out.re HCs.out rfl HOn.out ?_))
  exact bodyPost_ret (results_cell_row rfl _ _ (w.heap.size + 1) 27 #[.int .i64 id, .slice qk m ck, .bool false, .bool false, .slice none 0 0] (0, 0) _ rfl (setRow_heap _ (w.heap.size + 1) _ _ _ _ HN5.out.re) Try.underlying27 rfl HCs.out) rfl HE.out

set_option maxHeartbeats 4000000 in
theorem need_rename (id : Int) (q : Option Addr) (args : List (List UInt8)) (n c : Nat) (w : World) (H : Args w q args n c) (hn : 3 ≤ n) : Calls Try.prog 26 #[.int .i64 id, shOf 7, .slice q n c] w (NeedP id false false (keysK 7 args) [] w) := by
  have C := Lib.hid (fun W (h : Below w.heap.size w W) => rename_any q args n c W (H.keep h) hn)
  have h1 : ∀ W, Sem.run Try.prog (binOp BinOp.neq 50 (.func (.func 43) #[] #[]) .nilFunc) W = .ok (.bool true) W := fun W => by kernel_rfl
  have h2 : ∀ W, Sem.run Try.prog (binOp BinOp.neq 24 .nilFunc .nilFunc) W = .ok (.bool false) W := fun W => by kernel_rfl
  have HNB := Lib.hid (NB.new w #[.func (.func 43) #[] #[], .bool false, .bool false, .nilFunc] #[.int .i64 0, .slice none 0 0, .bool false, .bool false, .slice none 0 0] #[.int .i64 id, .slice none 0 0, .bool false, .bool false, .slice none 0 0])
  show Calls Try.prog 26 #[.int .i64 id, .agg #[.func (.func 43) #[] #[], .bool false, .bool false, .nilFunc], .slice q n c] w _
  generalize keysK 7 args = K at C ⊢
  clear H
  go_enter Try.func26, Try.ntmps26
  go_wp2_with fail
  generalize (((w.alloc _).alloc _).alloc _) = W3 at HNB ⊢
  with_reducible refine (C.out W3 HNB.out.bl).mono ?_
  rintro e w4 ⟨v, rfl, hv, hb4⟩
  have HN4 := Lib.hid (HNB.out.keep hb4)
  have HS3 := Lib.hid HNB.out.sz
  obtain ⟨qk, ck, rfl, hU, hge, hc1, hc2, hc3⟩ := hv.ans
  have HU4 := Lib.hid (show AnsU W3.heap.size w4 (.slice qk K.length ck) K from ⟨qk, ck, rfl, hU, hge, hc1, hc2, hc3⟩)
  clear hv hU hge hc1 hc2 hc3 hb4 C HNB
  generalize hKl : K.length = m at HU4 ⊢
  clear hKl
  have hcell : w4.cell? ⟨w.heap.size + 1 + 1, 1, none⟩ = some (.slice none 0 0) := by rw [cell_of_row _ _ _ _ 27 _ HN4.out.nd]; rfl
  have hfrz : w4.frozen? ⟨w.heap.size + 1 + 1, 1, none⟩ = false := frozen_of_row _ _ _ _ 27 HN4.out.nd
  have HN5 := Lib.hid (show NB w (w4.setCell ⟨w.heap.size + 1 + 1, 1, none⟩ (.slice qk m ck)) _ _ #[.int .i64 id, .slice qk m ck, .bool false, .bool false, .slice none 0 0] from HN4.out.put 1 (.slice qk m ck))
  have HU5 := Lib.hid (show AnsU W3.heap.size (w4.setCell ⟨w.heap.size + 1 + 1, 1, none⟩ (.slice qk m ck)) (.slice qk m ck) K from ansU_put HU4.out (by show w.heap.size + 1 + 1 < _; exact HS3.out))
  have hsh : (w4.setCell ⟨w.heap.size + 1 + 1, 1, none⟩ (.slice qk m ck)).cell? ⟨w.heap.size, 3, none⟩ = some .nilFunc := by rw [cell_of_row _ _ _ _ 52 _ HN5.out.sh]; rfl
  have HCs := Lib.hid (show (Try.prog.info? 27).map (·.size) = some (#[.int .i64 id, .slice qk m ck, .bool false, .bool false, .slice none 0 0] : Array Value).size from need_size)
  have HOn := Lib.hid (show (#[.int .i64 id, .slice qk m ck, .bool false, .bool false, .slice none 0 0] : Array Value).all (·.oneCell') = true by simp [Value.oneCell'])
  have HE := Lib.hid (need_ends (Nat.lt_trans (Nat.lt_succ_self _) HS3.out) HN5.out HU5.out (ansS_nil _ _))
  clear HN4 HU4 HU5
  go_wp2_with (first
    | (with_reducible refine wpList_load_row rfl 27 (.tmp 7) rfl (w.heap.size + 1 + 1) rfl 27 #[.int .i64 id, .slice qk m ck, .bool false, .bool false, .slice none 0 0] (0, 0) _ HN5.out.nd Try.underlying27 rfl HCs.out ?_)
    | (with_reducible refine wpList_store_row rfl 27 (.tmp 6) (.tmp 30) rfl (w.heap.size + 1) #[.int .i64 id, .slice qk m ck, .bool false, .bool false, .slice none 0 0] rfl rfl 27 _ HN5.out.re HCs.out rfl HOn.out ?_))
  exact bodyPost_ret (results_cell_row rfl _ _ (w.heap.size + 1) 27 #[.int .i64 id, .slice qk m ck, .bool false, .bool false, .slice none 0 0] (0, 0) _ rfl (setRow_heap _ (w.heap.size + 1) _ _ _ _ HN5.out.re) Try.underlying27 rfl HCs.out) rfl HE.out

end Go.Proofs.Ytonoelpmmjnpeaa.UseM
