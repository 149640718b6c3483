/-
  The landed code of layer 8: a request's need where no key stands in it; and of each kind.
-/
import Derived.Test.YtonoelpmmjnpeaaUseDo
namespace Go.Proofs.Ytonoelpmmjnpeaa.UseM
open Go.RowKit Kit StrT UseT TableMath Low MapT RefU
open RefTab (results_cell_slot)
set_option linter.unusedVariables false
set_option maxRecDepth 100000

set_option maxHeartbeats 4000000 in
theorem need_allChans (id : Int) (q : Option Addr) (args : List (List UInt8)) (n c : Nat) (w : World) (H : Args w q args n c) (hn : 2 ≤ n) : Calls Try.prog 26 #[.int .i64 id, shOf 10, .slice q n c] w (NeedP id false false [] (chansK 10 args) w) := by
  have C := Lib.hid (fun W (h : Below w.heap.size w W) => chans_all q args n c W (H.keep h) hn)
  have h1 : ∀ W, Sem.run Try.prog (binOp BinOp.neq 50 .nilFunc .nilFunc) W = .ok (.bool false) W := fun W => by kernel_rfl
  have h2 : ∀ W, Sem.run Try.prog (binOp BinOp.neq 24 (.func (.func 44) #[] #[]) .nilFunc) W = .ok (.bool true) W := fun W => by kernel_rfl
  have HNB := Lib.hid (NB.new w #[.nilFunc, .bool false, .bool false, .func (.func 44) #[] #[]] #[.int .i64 0, .slice none 0 0, .bool false, .bool false, .slice none 0 0] #[.int .i64 id, .slice none 0 0, .bool false, .bool false, .slice none 0 0])
  show Calls Try.prog 26 #[.int .i64 id, .agg #[.nilFunc, .bool false, .bool false, .func (.func 44) #[] #[]], .slice q n c] w _
  generalize chansK 10 args = K at C ⊢
  clear H
  go_enter Try.func26, Try.ntmps26
  go_wp2_with fail
  generalize (((w.alloc _).alloc _).alloc _) = W3 at HNB ⊢
  with_reducible refine (C.out W3 HNB.out.bl).mono ?_
  rintro e w4 ⟨v, rfl, hv, hb4⟩
  have HN4 := Lib.hid (HNB.out.keep hb4)
  have HS3 := Lib.hid HNB.out.sz
  obtain ⟨qk, ck, rfl, hU, hge, hc1, hc2, hc3⟩ := hv
  have HU4 := Lib.hid (show AnsS W3.heap.size w4 (.slice qk K.length ck) K from ⟨qk, ck, rfl, hU, hge, hc1, hc2, hc3⟩)
  clear hU hge hc1 hc2 hc3 hb4 C HNB
  generalize hKl : K.length = m at HU4 ⊢
  clear hKl
  have hcell : w4.cell? ⟨w.heap.size + 1 + 1, 4, none⟩ = some (.slice none 0 0) := by rw [cell_of_row _ _ _ _ 27 _ HN4.out.nd]; rfl
  have hfrz : w4.frozen? ⟨w.heap.size + 1 + 1, 4, none⟩ = false := frozen_of_row _ _ _ _ 27 HN4.out.nd
  have HN5 := Lib.hid (show NB w (w4.setCell ⟨w.heap.size + 1 + 1, 4, none⟩ (.slice qk m ck)) _ _ #[.int .i64 id, .slice none 0 0, .bool false, .bool false, .slice qk m ck] from HN4.out.put 4 (.slice qk m ck))
  have HU5 := Lib.hid (show AnsS W3.heap.size (w4.setCell ⟨w.heap.size + 1 + 1, 4, none⟩ (.slice qk m ck)) (.slice qk m ck) K from ansS_put HU4.out (by show w.heap.size + 1 + 1 < _; exact HS3.out))
  have HCs := Lib.hid (show (Try.prog.info? 27).map (·.size) = some (#[.int .i64 id, .slice none 0 0, .bool false, .bool false, .slice qk m ck] : Array Value).size from need_size)
  have HOn := Lib.hid (show (#[.int .i64 id, .slice none 0 0, .bool false, .bool false, .slice qk m ck] : Array Value).all (·.oneCell') = true by simp [Value.oneCell'])
  have HE := Lib.hid (need_ends (Nat.lt_trans (Nat.lt_succ_self _) HS3.out) HN5.out (ansU_nil _ _) HU5.out)
  clear HN4 HU4 HU5
  go_wp2_with (first
    | (with_reducible refine wpList_load_row rfl 27 (.tmp 7) rfl (w.heap.size + 1 + 1) rfl 27 #[.int .i64 id, .slice none 0 0, .bool false, .bool false, .slice qk m ck] (0, 0) _ HN5.out.nd Try.underlying27 rfl HCs.out ?_)
    | (with_reducible refine wpList_store_row rfl 27 (.tmp 6) (.tmp 30) rfl (w.heap.size + 1) #[.int .i64 id, .slice none 0 0, .bool false, .bool false, .slice qk m ck] rfl rfl 27 _ HN5.out.re HCs.out rfl HOn.out ?_))
  exact bodyPost_ret (results_cell_row rfl _ _ (w.heap.size + 1) 27 #[.int .i64 id, .slice none 0 0, .bool false, .bool false, .slice qk m ck] (0, 0) _ rfl (setRow_heap _ (w.heap.size + 1) _ _ _ _ HN5.out.re) Try.underlying27 rfl HCs.out) rfl HE.out

set_option maxHeartbeats 4000000 in
theorem need_secondChan (id : Int) (q : Option Addr) (args : List (List UInt8)) (n c : Nat) (w : World) (H : Args w q args n c) (hn : 2 ≤ n) : Calls Try.prog 26 #[.int .i64 id, shOf 11, .slice q n c] w (NeedP id false false [] (chansK 11 args) w) := by
  have C := Lib.hid (fun W (h : Below w.heap.size w W) => chans_second q args n c W (H.keep h) hn)
  have h1 : ∀ W, Sem.run Try.prog (binOp BinOp.neq 50 .nilFunc .nilFunc) W = .ok (.bool false) W := fun W => by kernel_rfl
  have h2 : ∀ W, Sem.run Try.prog (binOp BinOp.neq 24 (.func (.func 45) #[] #[]) .nilFunc) W = .ok (.bool true) W := fun W => by kernel_rfl
  have HNB := Lib.hid (NB.new w #[.nilFunc, .bool false, .bool false, .func (.func 45) #[] #[]] #[.int .i64 0, .slice none 0 0, .bool false, .bool false, .slice none 0 0] #[.int .i64 id, .slice none 0 0, .bool false, .bool false, .slice none 0 0])
  show Calls Try.prog 26 #[.int .i64 id, .agg #[.nilFunc, .bool false, .bool false, .func (.func 45) #[] #[]], .slice q n c] w _
  generalize chansK 11 args = K at C ⊢
  clear H
  go_enter Try.func26, Try.ntmps26
  go_wp2_with fail
  generalize (((w.alloc _).alloc _).alloc _) = W3 at HNB ⊢
  with_reducible refine (C.out W3 HNB.out.bl).mono ?_
  rintro e w4 ⟨v, rfl, hv, hb4⟩
  have HN4 := Lib.hid (HNB.out.keep hb4)
  have HS3 := Lib.hid HNB.out.sz
  obtain ⟨qk, ck, rfl, hU, hge, hc1, hc2, hc3⟩ := hv
  have HU4 := Lib.hid (show AnsS W3.heap.size w4 (.slice qk K.length ck) K from ⟨qk, ck, rfl, hU, hge, hc1, hc2, hc3⟩)
  clear hU hge hc1 hc2 hc3 hb4 C HNB
  generalize hKl : K.length = m at HU4 ⊢
  clear hKl
  have hcell : w4.cell? ⟨w.heap.size + 1 + 1, 4, none⟩ = some (.slice none 0 0) := by rw [cell_of_row _ _ _ _ 27 _ HN4.out.nd]; rfl
  have hfrz : w4.frozen? ⟨w.heap.size + 1 + 1, 4, none⟩ = false := frozen_of_row _ _ _ _ 27 HN4.out.nd
  have HN5 := Lib.hid (show NB w (w4.setCell ⟨w.heap.size + 1 + 1, 4, none⟩ (.slice qk m ck)) _ _ #[.int .i64 id, .slice none 0 0, .bool false, .bool false, .slice qk m ck] from HN4.out.put 4 (.slice qk m ck))
  have HU5 := Lib.hid (show AnsS W3.heap.size (w4.setCell ⟨w.heap.size + 1 + 1, 4, none⟩ (.slice qk m ck)) (.slice qk m ck) K from ansS_put HU4.out (by show w.heap.size + 1 + 1 < _; exact HS3.out))
  have HCs := Lib.hid (show (Try.prog.info? 27).map (·.size) = some (#[.int .i64 id, .slice none 0 0, .bool false, .bool false, .slice qk m ck] : Array Value).size from need_size)
  have HOn := Lib.hid (show (#[.int .i64 id, .slice none 0 0, .bool false, .bool false, .slice qk m ck] : Array Value).all (·.oneCell') = true by simp [Value.oneCell'])
  have HE := Lib.hid (need_ends (Nat.lt_trans (Nat.lt_succ_self _) HS3.out) HN5.out (ansU_nil _ _) HU5.out)
  clear HN4 HU4 HU5
  go_wp2_with (first
    | (with_reducible refine wpList_load_row rfl 27 (.tmp 7) rfl (w.heap.size + 1 + 1) rfl 27 #[.int .i64 id, .slice none 0 0, .bool false, .bool false, .slice qk m ck] (0, 0) _ HN5.out.nd Try.underlying27 rfl HCs.out ?_)
    | (with_reducible refine wpList_store_row rfl 27 (.tmp 6) (.tmp 30) rfl (w.heap.size + 1) #[.int .i64 id, .slice none 0 0, .bool false, .bool false, .slice qk m ck] rfl rfl 27 _ HN5.out.re HCs.out rfl HOn.out ?_))
  exact bodyPost_ret (results_cell_row rfl _ _ (w.heap.size + 1) 27 #[.int .i64 id, .slice none 0 0, .bool false, .bool false, .slice qk m ck] (0, 0) _ rfl (setRow_heap _ (w.heap.size + 1) _ _ _ _ HN5.out.re) Try.underlying27 rfl HCs.out) rfl HE.out

set_option maxHeartbeats 4000000 in
theorem need_nilf (r z : Bool) (id : Int) (q : Option Addr) (n c : Nat) (w : World) : Calls Try.prog 26 #[.int .i64 id, .agg #[.nilFunc, .bool r, .bool z, .nilFunc], .slice q n c] w (NeedP id r z [] [] w) := by
  have h1 : ∀ W, Sem.run Try.prog (binOp BinOp.neq 50 .nilFunc .nilFunc) W = .ok (.bool false) W := fun W => by kernel_rfl
  have h2 : ∀ W, Sem.run Try.prog (binOp BinOp.neq 24 .nilFunc .nilFunc) W = .ok (.bool false) W := fun W => by kernel_rfl
  have HNB := Lib.hid (NB.new w #[.nilFunc, .bool r, .bool z, .nilFunc] #[.int .i64 0, .slice none 0 0, .bool false, .bool false, .slice none 0 0] #[.int .i64 id, .slice none 0 0, .bool r, .bool z, .slice none 0 0])
  have HCs := Lib.hid (show (Try.prog.info? 27).map (·.size) = some (#[.int .i64 id, .slice none 0 0, .bool r, .bool z, .slice none 0 0] : Array Value).size from need_size)
  have HOn := Lib.hid (show (#[.int .i64 id, .slice none 0 0, .bool r, .bool z, .slice none 0 0] : Array Value).all (·.oneCell') = true by simp [Value.oneCell'])
  have HE := Lib.hid (need_ends (Nat.lt_succ_self _) HNB.out (ansU_nil _ _) (ansS_nil _ _))
  go_enter Try.func26, Try.ntmps26
  go_wp2_with (first
    | (with_reducible refine wpList_load_row rfl 27 (.tmp 7) rfl (w.heap.size + 1 + 1) rfl 27 #[.int .i64 id, .slice none 0 0, .bool r, .bool z, .slice none 0 0] (0, 0) _ HNB.out.nd Try.underlying27 rfl HCs.out ?_)
    | (with_reducible refine wpList_store_row rfl 27 (.tmp 6) (.tmp 30) rfl (w.heap.size + 1) #[.int .i64 id, .slice none 0 0, .bool r, .bool z, .slice none 0 0] rfl rfl 27 _ HNB.out.re HCs.out rfl HOn.out ?_))
  exact bodyPost_ret (results_cell_row rfl _ _ (w.heap.size + 1) 27 #[.int .i64 id, .slice none 0 0, .bool r, .bool z, .slice none 0 0] (0, 0) _ rfl (setRow_heap _ (w.heap.size + 1) _ _ _ _ HNB.out.re) Try.underlying27 rfl HCs.out) rfl HE.out

/-- Of each kind. -/
theorem need_any (k : Nat) (id : Int) (q : Option Addr) (args : List (List UInt8)) (n c : Nat) (w : World) (H : Args w q args n c) (hk : k ≤ 12) (ha : (k ≤ 2 ∨ k = 10 ∨ k = 11 → 2 ≤ n) ∧ (k = 5 ∨ k = 7 → 3 ≤ n) ∧ 1 ≤ n) :
    Calls Try.prog 26 #[.int .i64 id, shOf k, .slice q n c] w (NeedP id (decide (k = 8)) (decide (k = 9)) (keysK k args) (chansK k args) w) := by
  obtain ⟨a1, a2, a3⟩ := ha
  have hk2 : k = 0 ∨ k = 1 ∨ k = 2 ∨ k = 3 ∨ k = 4 ∨ k = 5 ∨ k = 6 ∨ k = 7 ∨ k = 8 ∨ k = 9 ∨ k = 10 ∨ k = 11 ∨ k = 12 := by omega
  rcases hk2 with rfl | rfl | rfl | rfl | rfl | rfl | rfl | rfl | rfl | rfl | rfl | rfl | rfl
  · exact need_readSecond id q args n c w H (a1 (by omega))
  · exact need_set id q args n c w H (a1 (by omega))
  · exact need_changeSecond id q args n c w H (a1 (by omega))
  · exact need_readAll id q args n c w H a3
  · exact need_mset id q args n c w H a3
  · exact need_changeBoth id q args n c w H (a2 (by omega))
  · exact need_changeAll id q args n c w H a3
  · exact need_rename id q args n c w H (a2 (by omega))
  · exact need_nilf true false id q n c w
  · exact need_nilf false true id q n c w
  · exact need_allChans id q args n c w H (a1 (by omega))
  · exact need_secondChan id q args n c w H (a1 (by omega))
  · exact need_nilf false false id q n c w

end Go.Proofs.Ytonoelpmmjnpeaa.UseM
