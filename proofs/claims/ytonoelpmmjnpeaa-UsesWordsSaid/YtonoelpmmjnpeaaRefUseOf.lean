/-
  What a request needs, as the document's own answers of layer 8 (package tipstaffref08) tell it.
-/
import Derived.Test.YtonoelpmmjnpeaaRefUses5
import Derived.Test.YtonoelpmmjnpeaaRefFind
import Derived.Test.YtonoelpmmjnpeaaStrApp
import Derived.Test.YtonoelpmmjnpeaaRow
namespace Go.Proofs.Ytonoelpmmjnpeaa.RefU
open Go.RowKit Kit StrT UseT TableMath Low
open RefTab (results_cell_slot)
set_option linter.unusedVariables false
set_option maxRecDepth 100000

def z5 : Array Value := #[.int .i64 0, .slice none 0 0, .bool false, .bool false, .slice none 0 0]
theorem need_size : (Try.prog.info? 27).map (·.size) = some 5 := by kernel_rfl
theorem need_size0 : (Try.prog.info? 27).map (·.size) = some (#[.int .i64 0, .slice none 0 0, .bool false, .bool false, .slice none 0 0] : Array Value).size := need_size
theorem need_build0 (W : World) : (Instr.build 27 #[]).run Try.prog W = .ok (.agg #[.int .i64 0, .slice none 0 0, .bool false, .bool false, .slice none 0 0]) W := run_build W 27 _ _ (by kernel_rfl)
theorem ofP_mk {args : List (List UInt8)} {w w' : World} {v : Value} {e : Int} (he : (ofE args : Int) = e) (h1 : NeedA w.heap.size w' v (ofN args)) (h2 : Below w.heap.size w w') : OfP args w (.returned (.tuple #[v, .int .i64 e])) w' := by
  subst he
  exact ⟨v, rfl, h1, h2⟩
theorem ss_first {w : World} {q : Option Addr} {args : List (List UInt8)} (h : Ss w q args) (h0 : 0 < args.length) : ∃ b off, q = some ⟨b, off, none⟩ ∧ b < w.heap.size ∧ w.cell? ⟨b, off, none⟩ = some (.string ⟨(args.getD 0 []).toArray⟩) := by
  obtain ⟨b, off, e, h1, h2⟩ := ss_cell h 0 h0
  exact ⟨b, off, e, h1, h2⟩

set_option maxHeartbeats 4000000 in
theorem rof_nil (q : Option Addr) (c : Nat) (w : World) : Calls Try.prog 11 #[.slice q 0 c] w (OfP [] w) := by
  have hb0 := need_build0
  have HB := Lib.hid (Kit.below1 w (.cells #[.int .i64 0, .slice none 0 0, .bool false, .bool false, .slice none 0 0] 27))
  have HO := Lib.hid (show (#[.int .i64 0, .slice none 0 0, .bool false, .bool false, .slice none 0 0] : Array Value).all (·.oneCell') = true by simp [Value.oneCell'])
  go_enter Try.func11, Try.ntmps11
  go_wp2_with fail
  exact bodyPost_ret (results_cell_slot rfl _ _ w.heap.size 27 #[.int .i64 0, .slice none 0 0, .bool false, .bool false, .slice none 0 0] (0, 0) _ (.int .i64 2) rfl (heap_alloc_last _ _) Try.underlying27 rfl need_size rfl) rfl (ofP_mk rfl (need_nil _ _) HB.out)

set_option maxHeartbeats 4000000 in
theorem rof_bad (q : Option Addr) (args : List (List UInt8)) (n c : Nat) (w : World) (hn : args.length = n) (h : Ss w q args) (hz : n ≤ 1048576) (h0 : 0 < n) (hs : (args.getD 0 []).length ≤ 140737488351232) (hbad : findB (nameL args) = false ∨ okL (nameL args) n = false) :
    Calls Try.prog 11 #[.slice q n c] w (OfP args w) := by
  have hb0 := need_build0
  have HB := Lib.hid (Kit.below1 w (.cells #[.int .i64 0, .slice none 0 0, .bool false, .bool false, .slice none 0 0] 27))
  have HO := Lib.hid (show (#[.int .i64 0, .slice none 0 0, .bool false, .bool false, .slice none 0 0] : Array Value).all (·.oneCell') = true by simp [Value.oneCell'])
  have HNe := Lib.hid (show args ≠ [] from fun e => by rw [e] at hn; simp at hn; omega)
  obtain ⟨b, off, rfl, hlt, hu⟩ := ss_first h (by omega)
  obtain ⟨S, hS⟩ : ∃ S : ByteArray, S = ⟨(args.getD 0 []).toArray⟩ := ⟨_, rfl⟩
  have hSs : S.size ≤ 140737488351232 := by rw [hS]; simpa [ByteArray.size] using hs
  have hSl : lowL S.data.toList = nameL args := by rw [hS]; rfl
  rw [← hS] at hu
  have CF := Lib.hid (fun W => RefTab.find_any S W hSs)
  rw [hSl] at CF
  obtain ⟨m, hm⟩ : ∃ m, m = nameL args := ⟨_, rfl⟩
  rw [← hm] at CF hbad
  have HM := Lib.hid hm
  have t0 : ((n : Int) == 0) = false := by rw [beq_eq_false_iff_ne]; omega
  have hn0 : (0 : Int) < (n : Int) := by omega
  have hu2 : (w.alloc (.cells #[.int .i64 0, .slice none 0 0, .bool false, .bool false, .slice none 0 0] 27)).cell? ⟨b, off, none⟩ = some (.string S) := by
    rw [(Kit.below1 w _).cell (p := ⟨b, off, none⟩) hlt]
    exact hu
  by_cases hf : findB m = false
  · rw [hf] at CF
    obtain ⟨k, hk⟩ : ∃ k, k = findV m := ⟨_, rfl⟩
    rw [← hk] at CF
    have HR := Lib.hid (of_none HNe.out (by rw [← hm]; exact hf))
    clear hbad hn h hS hs hSs hSl hu hm hk hf
    go_enter Try.func11, Try.ntmps11
    go_wp2_with fail
    refine (CF.out _).mono ?_
    rintro e w1 ⟨rfl, hb1⟩
    have HH := Lib.hid (show w1.heap[w.heap.size]? = some (.cells #[.int .i64 0, .slice none 0 0, .bool false, .bool false, .slice none 0 0] 27 (0, 0)) by rw [hb1.block w.heap.size (by simp)]; exact heap_alloc_last w _)
    have HB1 := Lib.hid (HB.out.trans (hb1.mono HB.out.size))
    clear hb1 CF HB
    go_wp2_with (with_reducible refine wpList_store_row rfl 27 (.tmp 2) (.tmp 22) rfl w.heap.size #[.int .i64 0, .slice none 0 0, .bool false, .bool false, .slice none 0 0] rfl rfl 27 _ HH.out need_size0 rfl HO.out ?_)
    exact bodyPost_ret (results_cell_slot rfl _ _ w.heap.size 27 #[.int .i64 0, .slice none 0 0, .bool false, .bool false, .slice none 0 0] (0, 0) _ (.int .i64 2) rfl (setRow_heap _ w.heap.size _ _ _ _ HH.out) Try.underlying27 rfl need_size rfl) rfl (ofP_mk (by rw [HR.out.2]; rfl) (by rw [HR.out.1]; exact need_nil _ _) (below_setRow HB1.out (Nat.le_refl _) _))
  · have hft : findB m = true := by simpa using hf
    have hbd := hbad.resolve_left hf
    rw [hft] at CF
    have hkv : findV m = (findK m : Int) := (findV_at (find_name hft).1 rfl).1
    rw [hkv] at CF
    have hk56 := (find_name hft).1
    have HR := Lib.hid (of_bad HNe.out (by rw [← hm]; exact hft) (by rw [← hm, hn]; exact hbd))
    have CFit := Lib.hid (fun W => RefTab.fits_any (findK m : Int) (n : Int) W (by omega) (by omega) (by omega) (by omega))
    obtain ⟨T, hT⟩ : ∃ T : ByteArray, T = ⟨m.toArray⟩ := ⟨_, rfl⟩
    have hlow : (⟨(lowL S.data.toList).toArray⟩ : ByteArray) = T := by rw [hT, hSl, hm]
    have CL := Lib.hid (fun W => (hlow ▸ LowR.lower_ref S W (by omega) (by omega) : Calls Try.prog 21 #[.string S] W fun e w' => e = .returned (.string T) ∧ Below W.heap.size W w'))
    have hTd : T.data.toList = m := by rw [hT]
    unfold okL at hbd
    obtain ⟨k, hk⟩ : ∃ k, k = findK m := ⟨_, rfl⟩
    rw [← hk] at CF hbd CFit hk56
    obtain ⟨B, hB⟩ : ∃ B, B = fitsB (k : Int) (n : Int) := ⟨_, rfl⟩
    rw [← hB] at hbd CFit
    have tst : B = false ∨ (B = true ∧ (T.toList == [109, 115, 101, 116]) = true ∧ ((n : Int) % 2 == 0) = true) := by
      cases B with
      | false => exact Or.inl rfl
      | true =>
        refine Or.inr ⟨rfl, ?_, ?_⟩
        · simp at hbd
          rw [ByteArray.toList_eq, hTd, hbd.1]
          rfl
        · simp at hbd
          rw [beq_iff_eq]
          omega
    have mst : (T.toList == [109, 115, 101, 116]) = true → (T.toList == (⟨#[109, 115, 101, 116]⟩ : ByteArray).toList) = true := fun h => by
      rw [ByteArray.toList_eq (⟨#[109, 115, 101, 116]⟩ : ByteArray)]
      exact h
    clear hbad hn h hS hs hSs hSl hu hm hf hkv hlow hT hTd hbd hk hB hft
    go_enter Try.func11, Try.ntmps11
    go_wp2_with fail
    refine (CF.out _).mono ?_
    rintro e w1 ⟨rfl, hb1⟩
    go_wp2_with fail
    refine (CFit.out _).mono ?_
    rintro e w2 ⟨rfl, hb2⟩
    have hu3 : w2.cell? ⟨b, off, none⟩ = some (.string S) := by
      rw [hb2.cell (p := ⟨b, off, none⟩) (by have := hb1.size; have := HB.out.size; show b < _; omega), hb1.cell (p := ⟨b, off, none⟩) (by have := HB.out.size; show b < _; omega)]
      exact hu2
    have hb12 := hb1.trans (hb2.mono hb1.size)
    clear hb1 hb2 hu2 CF CFit
    go_wp2_with fail
    refine (CL.out _).mono ?_
    rintro e w3 ⟨rfl, hb3⟩
    have hb13 := hb12.trans (hb3.mono hb12.size)
    have HH := Lib.hid (show w3.heap[w.heap.size]? = some (.cells #[.int .i64 0, .slice none 0 0, .bool false, .bool false, .slice none 0 0] 27 (0, 0)) by rw [hb13.block w.heap.size (by simp)]; exact heap_alloc_last w _)
    have HB1 := Lib.hid (HB.out.trans (hb13.mono HB.out.size))
    clear hb12 hb3 hb13 CL HB hu3
    rcases tst with rfl | ⟨rfl, t1, t2⟩
    · clear mst
      go_wp2_with (with_reducible refine wpList_store_row rfl 27 (.tmp 2) (.tmp 43) rfl w.heap.size #[.int .i64 0, .slice none 0 0, .bool false, .bool false, .slice none 0 0] rfl rfl 27 _ HH.out need_size0 rfl HO.out ?_)
      exact bodyPost_ret (results_cell_slot rfl _ _ w.heap.size 27 #[.int .i64 0, .slice none 0 0, .bool false, .bool false, .slice none 0 0] (0, 0) _ (.int .i64 1) rfl (setRow_heap _ w.heap.size _ _ _ _ HH.out) Try.underlying27 rfl need_size rfl) rfl (ofP_mk (by rw [HR.out.2]; rfl) (by rw [HR.out.1]; exact need_nil _ _) (below_setRow HB1.out (Nat.le_refl _) _))
    · have t3 := mst t1
      clear mst
      go_wp2_with (with_reducible refine wpList_store_row rfl 27 (.tmp 2) (.tmp 43) rfl w.heap.size #[.int .i64 0, .slice none 0 0, .bool false, .bool false, .slice none 0 0] rfl rfl 27 _ HH.out need_size0 rfl HO.out ?_)
      exact bodyPost_ret (results_cell_slot rfl _ _ w.heap.size 27 #[.int .i64 0, .slice none 0 0, .bool false, .bool false, .slice none 0 0] (0, 0) _ (.int .i64 1) rfl (setRow_heap _ w.heap.size _ _ _ _ HH.out) Try.underlying27 rfl need_size rfl) rfl (ofP_mk (by rw [HR.out.2]; rfl) (by rw [HR.out.1]; exact need_nil _ _) (below_setRow HB1.out (Nat.le_refl _) _))

end Go.Proofs.Ytonoelpmmjnpeaa.RefU
