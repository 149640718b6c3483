/-
  Keys that are read, and written, as the document's own answers of layer 8 (package tipstaffref08) tell them.
-/
import Derived.Test.YtonoelpmmjnpeaaUseNeed
import Derived.Test.YtonoelpmmjnpeaaRow
import Derived.Deep.WholeRow
import Derived.Deep.MidRow
import Derived.BigQuiet
import Derived.Deep.QuietTactic
import Derived.StillTailTactics
namespace Go.Proofs.Ytonoelpmmjnpeaa.RefU
open Go.RowKit Kit StrT UseT TableMath Low
set_option linter.unusedVariables false
set_option maxRecDepth 100000

theorem need_cells (W : World) (x0 x1 x2 x3 x4 : Value) (k : Nat) (hk : k = W.heap.size) : (W.alloc (.cells #[x0, x1, x2, x3, x4] 27)).cell? ⟨k, 1, none⟩ = some x1 := by
  subst hk
  rw [cell_of_row _ _ _ _ 27 _ (heap_alloc_last W _)]
  rfl
set_option maxHeartbeats 4000000 in
theorem rreads (q : Option Addr) (L : List U) (n c : Nat) (x0 x2 x3 x4 : Value) (w : World) (hn : L.length = n) (h : Us w q L) (hz : n ≤ 1048576) :
    Calls Try.prog 15 #[.agg #[x0, .slice q n c, x2, x3, x4]] w (TextsP (readsL L) w) := by
  have HU := Lib.hid h
  have HN := Lib.hid hn
  have HE := Lib.hid (reads_take L)
  have HW := Lib.hid (Kit.below1 w (.cells #[x0, .slice q n c, x2, x3, x4] 27))
  have HC1 := Lib.hid (need_cells w x0 (.slice q n c) x2 x3 x4 w.heap.size rfl)
  have HO := Lib.hid (ownS_new (w.alloc (.cells #[x0, .slice q n c, x2, x3, x4] 27)) _ (w.heap.size + 1) (by simp) (Nat.le_refl _))
  have HBl := Lib.hid (Kit.below1 (w.alloc (.cells #[x0, .slice q n c, x2, x3, x4] 27)) (.cells #[] 9))
  have HSz := Lib.hid (show w.heap.size < (w.alloc (.cells #[x0, .slice q n c, x2, x3, x4] 27)).heap.size by simp)
  clear hn h
  go_enter Try.func15, Try.ntmps15
  go_wp2_with fail
  generalize w.alloc (.cells #[x0, .slice q n c, x2, x3, x4] 27) = W1 at HW HC1 HO HBl HSz ⊢
  go_loopw [3, 4] (fun v i wr => ∃ k : Nat, k ≤ n ∧ i = .int .i64 k ∧ Hid (OwnS W1.heap.size wr v (readsL (L.take k))) ∧ Hid (Below W1.heap.size W1 wr)) (fun _ i _ => n - (intOf i).toNat)
  case atStart => exact ⟨0, Nat.zero_le _, rfl, HO, HBl⟩
  case round =>
    obtain ⟨k, hk, rfl, HOw, HB⟩ := hrel
    have hc1 : wr.cell? ⟨w.heap.size, 1, none⟩ = some (.slice q n c) := by rw [HB.out.cell (p := ⟨w.heap.size, 1, none⟩) HSz.out]; exact HC1.out
    by_cases hlt : k < n
    · have d1 : decide ((k : Int) < (n : Int)) = true := decide_eq_true (by omega)
      have hk0 : (0 : Int) ≤ (k : Int) := by omega
      have hkn : (k : Int) < (n : Int) := by omega
      have hkL : k < L.length := by rw [HN.out]; exact hlt
      obtain ⟨b, off, rfl, hbl, hu0, hu1, hu2⟩ := (HU.out.keep (HW.out.trans (HB.out.mono HW.out.size))).cells k hkL
      have HNx := Lib.hid (HE.out k hkL)
      obtain ⟨x, hx⟩ : ∃ x : U, x = L[k] := ⟨_, rfl⟩
      rw [← hx] at hu0 hu1 hu2 HNx
      obtain ⟨xk, xr, xw⟩ := x
      simp only at hu0 hu1 hu2 HNx
      obtain ⟨T, hT⟩ : ∃ T : ByteArray, T = ⟨xk.toArray⟩ := ⟨_, rfl⟩
      rw [← hT] at hu0
      clear hx
      cases xr with
      | true =>
        have HO1 := Lib.hid (HOw.out.keep (Kit.below1 wr (.cells #[.string T] 9)))
        have HC := Lib.hid (show (wr.alloc (.cells #[.string T] 9)).cell? ⟨wr.heap.size, 0, none⟩ = some (.string T) by simp [World.cell?_alloc_mark])
        have HBa := Lib.hid (HB.out.alloc HB.out.size (.cells #[.string T] 9))
        have HLn := Lib.hid (show (readsL (L.take k)).length ≤ 1048576 by have := reads_len (L.take k); rw [List.length_take] at this; omega)
        have HT := Lib.hid (show T.data.toList = xk by rw [hT])
        clear hT
        go_wp2_with (at_builtin; refine wpList_append_s (w0 := W1) rfl (.tmp 19) (.tmp 26) rfl _ _ rfl HO1.out HBa.out wr.heap.size T xk 1 rfl HT.out HC.out HLn.out ?_; intro v' w3 hown1 hb3)
        go_roundw
        case rel => exact ⟨k + 1, by omega, by go_num, Lib.hid (by rw [HNx.out]; exact hown1), Lib.hid hb3⟩
        case measure => simp [intOf]; omega
      | false =>
        clear hT
        go_wp2_with fail
        go_roundw
        case rel => exact ⟨k + 1, by omega, by go_num, Lib.hid (by rw [HNx.out]; simpa using HOw.out), HB⟩
        case measure => simp [intOf]; omega
    · have d1 : decide ((k : Int) < (n : Int)) = false := decide_eq_false (by omega)
      obtain rfl : k = n := by omega
      have HX := Lib.hid (show AnsS w.heap.size wr u3 (readsL L) from by
        have h := HOw.out
        rw [List.take_of_length_le (by rw [HN.out]; omega)] at h
        exact ansS_low (ownS_ans h) HW.out.size)
      have HF := Lib.hid (HW.out.trans (HB.out.mono HW.out.size))
      go_wp2_with fail
      go_ret
      exact ⟨_, rfl, HX.out, HF.out⟩

set_option maxHeartbeats 4000000 in
theorem rwrites (q : Option Addr) (L : List U) (n c : Nat) (x0 x2 x3 x4 : Value) (w : World) (hn : L.length = n) (h : Us w q L) (hz : n ≤ 1048576) :
    Calls Try.prog 17 #[.agg #[x0, .slice q n c, x2, x3, x4]] w (TextsP (writesL L) w) := by
  have HU := Lib.hid h
  have HN := Lib.hid hn
  have HE := Lib.hid (writes_take L)
  have HW := Lib.hid (Kit.below1 w (.cells #[x0, .slice q n c, x2, x3, x4] 27))
  have HC1 := Lib.hid (need_cells w x0 (.slice q n c) x2 x3 x4 w.heap.size rfl)
  have HO := Lib.hid (ownS_new (w.alloc (.cells #[x0, .slice q n c, x2, x3, x4] 27)) _ (w.heap.size + 1) (by simp) (Nat.le_refl _))
  have HBl := Lib.hid (Kit.below1 (w.alloc (.cells #[x0, .slice q n c, x2, x3, x4] 27)) (.cells #[] 9))
  have HSz := Lib.hid (show w.heap.size < (w.alloc (.cells #[x0, .slice q n c, x2, x3, x4] 27)).heap.size by simp)
  clear hn h
  go_enter Try.func17, Try.ntmps17
  go_wp2_with fail
  generalize w.alloc (.cells #[x0, .slice q n c, x2, x3, x4] 27) = W1 at HW HC1 HO HBl HSz ⊢
  go_loopw [3, 4] (fun v i wr => ∃ k : Nat, k ≤ n ∧ i = .int .i64 k ∧ Hid (OwnS W1.heap.size wr v (writesL (L.take k))) ∧ Hid (Below W1.heap.size W1 wr)) (fun _ i _ => n - (intOf i).toNat)
  case atStart => exact ⟨0, Nat.zero_le _, rfl, HO, HBl⟩
  case round =>
    obtain ⟨k, hk, rfl, HOw, HB⟩ := hrel
    have hc1 : wr.cell? ⟨w.heap.size, 1, none⟩ = some (.slice q n c) := by rw [HB.out.cell (p := ⟨w.heap.size, 1, none⟩) HSz.out]; exact HC1.out
    by_cases hlt : k < n
    · have d1 : decide ((k : Int) < (n : Int)) = true := decide_eq_true (by omega)
      have hk0 : (0 : Int) ≤ (k : Int) := by omega
      have hkn : (k : Int) < (n : Int) := by omega
      have hkL : k < L.length := by rw [HN.out]; exact hlt
      obtain ⟨b, off, rfl, hbl, hu0, hu1, hu2⟩ := (HU.out.keep (HW.out.trans (HB.out.mono HW.out.size))).cells k hkL
      have HNx := Lib.hid (HE.out k hkL)
      obtain ⟨x, hx⟩ : ∃ x : U, x = L[k] := ⟨_, rfl⟩
      rw [← hx] at hu0 hu1 hu2 HNx
      obtain ⟨xk, xr, xw⟩ := x
      simp only at hu0 hu1 hu2 HNx
      obtain ⟨T, hT⟩ : ∃ T : ByteArray, T = ⟨xk.toArray⟩ := ⟨_, rfl⟩
      rw [← hT] at hu0
      clear hx
      cases xw with
      | true =>
        have HO1 := Lib.hid (HOw.out.keep (Kit.below1 wr (.cells #[.string T] 9)))
        have HC := Lib.hid (show (wr.alloc (.cells #[.string T] 9)).cell? ⟨wr.heap.size, 0, none⟩ = some (.string T) by simp [World.cell?_alloc_mark])
        have HBa := Lib.hid (HB.out.alloc HB.out.size (.cells #[.string T] 9))
        have HLn := Lib.hid (show (writesL (L.take k)).length ≤ 1048576 by have := writes_len (L.take k); rw [List.length_take] at this; omega)
        have HT := Lib.hid (show T.data.toList = xk by rw [hT])
        clear hT
        go_wp2_with (at_builtin; refine wpList_append_s (w0 := W1) rfl (.tmp 19) (.tmp 26) rfl _ _ rfl HO1.out HBa.out wr.heap.size T xk 1 rfl HT.out HC.out HLn.out ?_; intro v' w3 hown1 hb3)
        go_roundw
        case rel => exact ⟨k + 1, by omega, by go_num, Lib.hid (by rw [HNx.out]; exact hown1), Lib.hid hb3⟩
        case measure => simp [intOf]; omega
      | false =>
        clear hT
        go_wp2_with fail
        go_roundw
        case rel => exact ⟨k + 1, by omega, by go_num, Lib.hid (by rw [HNx.out]; simpa using HOw.out), HB⟩
        case measure => simp [intOf]; omega
    · have d1 : decide ((k : Int) < (n : Int)) = false := decide_eq_false (by omega)
      obtain rfl : k = n := by omega
      have HX := Lib.hid (show AnsS w.heap.size wr u3 (writesL L) from by
        have h := HOw.out
        rw [List.take_of_length_le (by rw [HN.out]; omega)] at h
        exact ansS_low (ownS_ans h) HW.out.size)
      have HF := Lib.hid (HW.out.trans (HB.out.mono HW.out.size))
      go_wp2_with fail
      go_ret
      exact ⟨_, rfl, HX.out, HF.out⟩

end Go.Proofs.Ytonoelpmmjnpeaa.RefU
