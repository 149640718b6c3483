/-
  The landed code of layer 8: what a request needs that is none.
-/
import Derived.Test.YtonoelpmmjnpeaaUseDo2
import Derived.Test.YtonoelpmmjnpeaaUseRead
import Derived.Test.YtonoelpmmjnpeaaTableFind
import Derived.Test.YtonoelpmmjnpeaaRefSame
import Derived.Test.YtonoelpmmjnpeaaRefRW
import Derived.Test.YtonoelpmmjnpeaaRefIn
import Derived.Test.YtonoelpmmjnpeaaRefFit
namespace Go.Proofs.Ytonoelpmmjnpeaa.UseM
open Go.RowKit Kit StrT UseT TableMath Low MapT RefU
open RefTab (results_cell_slot atV_in)
set_option linter.unusedVariables false
set_option maxRecDepth 100000

set_option maxHeartbeats 4000000 in
theorem of_nil (q : Option Addr) (c : Nat) (w : World) : Calls Try.prog 10 #[.slice q 0 c] w (OfP [] w) := by
  have hb0 := need_build0
  have HB := Lib.hid (bel1 w (.cells #[.int .i64 0, .slice none 0 0, .bool false, .bool false, .slice none 0 0] 27))
  have HO := Lib.hid (show (#[.int .i64 0, .slice none 0 0, .bool false, .bool false, .slice none 0 0] : Array Value).all (·.oneCell') = true by simp [Value.oneCell'])
  go_enter Try.func10, Try.ntmps10
  go_wp2_with fail
  exact bodyPost_ret (results_cell_slot rfl _ _ w.heap.size 27 #[.int .i64 0, .slice none 0 0, .bool false, .bool false, .slice none 0 0] (0, 0) _ (.int .i64 2) rfl (heap_alloc_last _ _) Try.underlying27 rfl need_size rfl) rfl (ofP_mk rfl (need_nil _ _) HB.out)

/-- The command's row, out of its name. -/
theorem row_of {m : List UInt8} (h : findB m = true) : ∃ (T : ByteArray) (r g : Int), aggV (atV (findK m : Int)) = .agg #[.string T, .int .i64 r, .int .u16 g] ∧ T.data.toList = m ∧ atB (findK m : Int) = true := by
  obtain ⟨h1, h2⟩ := find_name h
  refine ⟨⟨m.toArray⟩, (cmdAt (findK m)).ar, ((cmdAt (findK m)).ct : Int), ?_, rfl, by unfold atB; exact decide_eq_true ⟨by omega, by omega⟩⟩
  rw [show atV (findK m : Int) = cmdAt (findK m) from atV_in (by omega) (by omega)]
  unfold aggV
  rw [h2]
theorem cmd_sz : (Try.prog.info? 37).map (·.size) = some 3 := by kernel_rfl

set_option maxHeartbeats 4000000 in
theorem of_bad (q : Option Addr) (args : List (List UInt8)) (n c : Nat) (w : World) (hn : args.length = n) (h : Ss w q args) (hz : n ≤ 1048576) (h0 : 0 < n) (hs : (args.getD 0 []).length ≤ 140737488351232) (hbad : findB (nameL args) = false ∨ okL (nameL args) n = false) :
    Calls Try.prog 10 #[.slice q n c] w (OfP args w) := by
  have hb0 := need_build0
  have HB := Lib.hid (bel1 w (.cells #[.int .i64 0, .slice none 0 0, .bool false, .bool false, .slice none 0 0] 27))
  have HO := Lib.hid (show (#[.int .i64 0, .slice none 0 0, .bool false, .bool false, .slice none 0 0] : Array Value).all (·.oneCell') = true by simp [Value.oneCell'])
  have HNe := Lib.hid (show args ≠ [] from fun e => by rw [e] at hn; simp at hn; omega)
  obtain ⟨b, off, rfl, hlt, hu⟩ := ss_first h (by omega)
  obtain ⟨S, hS⟩ : ∃ S : ByteArray, S = ⟨(args.getD 0 []).toArray⟩ := ⟨_, rfl⟩
  have hSs : S.size ≤ 140737488351232 := by rw [hS]; simpa [ByteArray.size] using hs
  have hSl : lowL S.data.toList = nameL args := by rw [hS]; rfl
  rw [← hS] at hu
  have CF := Lib.hid (fun W => TableM.find_any S W hSs)
  rw [hSl] at CF
  obtain ⟨m, hm⟩ : ∃ m, m = nameL args := ⟨_, rfl⟩
  rw [← hm] at CF hbad
  have HM := Lib.hid hm
  have t0 : ((n : Int) == 0) = false := by rw [beq_eq_false_iff_ne]; omega
  have hn0 : (0 : Int) < (n : Int) := by omega
  have hu2 : (w.alloc (.cells #[.int .i64 0, .slice none 0 0, .bool false, .bool false, .slice none 0 0] 27)).cell? ⟨b, off, none⟩ = some (.string S) := by
    rw [(bel1 w _).cell (p := ⟨b, off, none⟩) hlt]
    exact hu
  by_cases hf : findB m = false
  · rw [hf] at CF
    obtain ⟨k, hk⟩ : ∃ k, k = findV m := ⟨_, rfl⟩
    rw [← hk] at CF
    have HR := Lib.hid (of_none HNe.out (by rw [← hm]; exact hf))
    clear hbad hn h hS hs hSs hSl hu hm hk hf
    go_enter Try.func10, Try.ntmps10
    go_wp2_with fail
    refine (CF.out _).mono ?_
    rintro e w1 ⟨rfl, hb1⟩
    have HH := Lib.hid (show w1.heap[w.heap.size]? = some (.cells #[.int .i64 0, .slice none 0 0, .bool false, .bool false, .slice none 0 0] 27 (0, 0)) by rw [hb1.block w.heap.size (by simp)]; exact heap_alloc_last w _)
    have HB1 := Lib.hid (HB.out.trans (hb1.mono HB.out.size))
    clear hb1 CF HB
    go_wp2_with (with_reducible refine wpList_store_row rfl 27 (.tmp 2) (.tmp 21) rfl w.heap.size #[.int .i64 0, .slice none 0 0, .bool false, .bool false, .slice none 0 0] rfl rfl 27 _ HH.out need_size0 rfl HO.out ?_)
    exact bodyPost_ret (results_cell_slot rfl _ _ w.heap.size 27 #[.int .i64 0, .slice none 0 0, .bool false, .bool false, .slice none 0 0] (0, 0) _ (.int .i64 2) rfl (setRow_heap _ w.heap.size _ _ _ _ HH.out) Try.underlying27 rfl need_size rfl) rfl (ofP_mk (by rw [HR.out.2]; rfl) (by rw [HR.out.1]; exact need_nil _ _) (below_setRow HB1.out (Nat.le_refl _) _))
  · have hft : findB m = true := by simpa using hf
    have hbd := hbad.resolve_left hf
    rw [hft] at CF
    have hkv : findV m = (findK m : Int) := (findV_at (find_name hft).1 rfl).1
    rw [hkv] at CF
    have hk56 := (find_name hft).1
    have HR := Lib.hid (UseT.of_bad HNe.out (by rw [← hm]; exact hft) (by rw [← hm, hn]; exact hbd))
    have CFit := Lib.hid (fun W => TableM.fits_any (findK m : Int) (n : Int) W (by omega) (by omega) (by omega) (by omega))
    have CAt := Lib.hid (fun W => TableM.at_any (findK m : Int) W (by omega) (by omega))
    obtain ⟨T, r, g, hag, hTd, hab⟩ := row_of hft
    rw [hag, hab] at CAt
    unfold okL at hbd
    obtain ⟨k, hk⟩ : ∃ k, k = findK m := ⟨_, rfl⟩
    rw [← hk] at CF hbd CFit hk56 CAt
    obtain ⟨B, hB⟩ : ∃ B, B = fitsB (k : Int) (n : Int) := ⟨_, rfl⟩
    rw [← hB] at hbd CFit
    have tst : B = false ∨ (B = true ∧ (T.toList == [109, 115, 101, 116]) = true ∧ ((n : Int) % 2 == 0) = true) := by
      cases B with
      | false => exact Or.inl rfl
      | true =>
        refine Or.inr ⟨rfl, ?_, ?_⟩
        · simp at hbd
          rw [ByteArray.toList_eq, hTd, hbd.1]
          rfl
        · simp at hbd
          rw [beq_iff_eq]
          omega
    have mst : (T.toList == [109, 115, 101, 116]) = true → (T.toList == (⟨#[109, 115, 101, 116]⟩ : ByteArray).toList) = true := fun h => by
      rw [ByteArray.toList_eq (⟨#[109, 115, 101, 116]⟩ : ByteArray)]
      exact h
    clear hbad hn h hS hs hSs hSl hu hm hf hkv hTd hbd hk hB hft hag hab
    go_enter Try.func10, Try.ntmps10
    go_wp2_with fail
    refine (CF.out _).mono ?_
    rintro e w1 ⟨rfl, hb1⟩
    have HB1 := Lib.hid (HB.out.trans (hb1.mono HB.out.size))
    have HH1 := Lib.hid (show w1.heap[w.heap.size]? = some (.cells #[.int .i64 0, .slice none 0 0, .bool false, .bool false, .slice none 0 0] 27 (0, 0)) by rw [hb1.block w.heap.size (by simp)]; exact heap_alloc_last w _)
    clear hb1 hu2 CF HB
    go_wp2_with fail
    refine (CAt.out _).mono ?_
    rintro e w2 ⟨rfl, hb2⟩
    have HS1 := Lib.hid (show w.heap.size < w1.heap.size from (Array.getElem?_eq_some_iff.1 HH1.out).1)
    have HB2 := Lib.hid (HB1.out.trans (hb2.mono HB1.out.size))
    have HH2 := Lib.hid (show w2.heap[w.heap.size]? = some (.cells #[.int .i64 0, .slice none 0 0, .bool false, .bool false, .slice none 0 0] 27 (0, 0)) by rw [hb2.block w.heap.size HS1.out]; exact HH1.out)
    have HS2 := Lib.hid (show w.heap.size < w2.heap.size from (Array.getElem?_eq_some_iff.1 HH2.out).1)
    have HB3 := Lib.hid (HB2.out.alloc HB2.out.size (.cells #[.string T, .int .i64 r, .int .u16 g] 37))
    have HH3 := Lib.hid (show (w2.alloc (.cells #[.string T, .int .i64 r, .int .u16 g] 37)).heap[w.heap.size]? = some (.cells #[.int .i64 0, .slice none 0 0, .bool false, .bool false, .slice none 0 0] 27 (0, 0)) by rw [Below.heap_alloc _ _ _ HS2.out]; exact HH2.out)
    have HD3 := Lib.hid (show (w2.alloc (.cells #[.string T, .int .i64 r, .int .u16 g] 37)).heap[w2.heap.size]? = some (.cells #[.string T, .int .i64 r, .int .u16 g] 37 (0, 0)) from heap_alloc_last w2 _)
    have HS3 := Lib.hid (show w.heap.size < (w2.alloc (.cells #[.string T, .int .i64 r, .int .u16 g] 37)).heap.size ∧ w2.heap.size < (w2.alloc (.cells #[.string T, .int .i64 r, .int .u16 g] 37)).heap.size by have := HS2.out; simp; omega)
    clear HB1 HH1 HS1 hb2 HB2 HH2 HS2 CAt
    go_wp2_with fail
    generalize w2.alloc (.cells #[.string T, .int .i64 r, .int .u16 g] 37) = w3 at HB3 HH3 HD3 HS3 ⊢
    refine (CFit.out _).mono ?_
    rintro e w4 ⟨rfl, hb4⟩
    have HB4 := Lib.hid (HB3.out.trans (hb4.mono HB3.out.size))
    have HH := Lib.hid (show w4.heap[w.heap.size]? = some (.cells #[.int .i64 0, .slice none 0 0, .bool false, .bool false, .slice none 0 0] 27 (0, 0)) by rw [hb4.block w.heap.size HS3.out.1]; exact HH3.out)
    have hc4 : w4.cell? ⟨w2.heap.size, 0, none⟩ = some (.string T) := by
      rw [hb4.cell (p := ⟨w2.heap.size, 0, none⟩) HS3.out.2, cell_of_row _ _ _ _ 37 _ HD3.out]
      rfl
    clear hb4 HB3 HH3 HD3 HS3 CFit
    rcases tst with rfl | ⟨rfl, t1, t2⟩
    · clear mst
      go_wp2_with (with_reducible refine wpList_store_row rfl 27 (.tmp 2) (.tmp 43) rfl w.heap.size #[.int .i64 0, .slice none 0 0, .bool false, .bool false, .slice none 0 0] rfl rfl 27 _ HH.out need_size0 rfl HO.out ?_)
      exact bodyPost_ret (results_cell_slot rfl _ _ w.heap.size 27 #[.int .i64 0, .slice none 0 0, .bool false, .bool false, .slice none 0 0] (0, 0) _ (.int .i64 1) rfl (setRow_heap _ w.heap.size _ _ _ _ HH.out) Try.underlying27 rfl need_size rfl) rfl (ofP_mk (by rw [HR.out.2]; rfl) (by rw [HR.out.1]; exact need_nil _ _) (below_setRow HB4.out (Nat.le_refl _) _))
    · have t3 := mst t1
      clear mst
      go_wp2_with (with_reducible refine wpList_store_row rfl 27 (.tmp 2) (.tmp 43) rfl w.heap.size #[.int .i64 0, .slice none 0 0, .bool false, .bool false, .slice none 0 0] rfl rfl 27 _ HH.out need_size0 rfl HO.out ?_)
      exact bodyPost_ret (results_cell_slot rfl _ _ w.heap.size 27 #[.int .i64 0, .slice none 0 0, .bool false, .bool false, .slice none 0 0] (0, 0) _ (.int .i64 1) rfl (setRow_heap _ w.heap.size _ _ _ _ HH.out) Try.underlying27 rfl need_size rfl) rfl (ofP_mk (by rw [HR.out.2]; rfl) (by rw [HR.out.1]; exact need_nil _ _) (below_setRow HB4.out (Nat.le_refl _) _))

end Go.Proofs.Ytonoelpmmjnpeaa.UseM
