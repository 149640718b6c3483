/-
  The landed code of layer 8: which keys are read, and written.
-/
import Derived.Test.YtonoelpmmjnpeaaUseKind
import Derived.Test.YtonoelpmmjnpeaaRefRW
import Derived.Test.YtonoelpmmjnpeaaRefUseOf
import Derived.Deep.MidRow
namespace Go.Proofs.Ytonoelpmmjnpeaa.UseM
open Go.RowKit Kit StrT UseT TableMath Low MapT RefU
set_option linter.unusedVariables false
set_option maxRecDepth 100000

theorem ownS_none (base : Nat) (w : World) : OwnS base w (.slice none 0 0) [] := ⟨rfl, Or.inl ⟨rfl, rfl⟩⟩
set_option maxHeartbeats 1000000 in
theorem clo_reads (T : ByteArray) (r z : Bool) (w : World) : Calls Try.prog 31 #[.agg #[.string T, .bool r, .bool z]] w fun e w' => e = .returned (.bool r) ∧ Below w.heap.size w w' := by
  have HB := Lib.hid (bel1 w (.cells #[.string T, .bool r, .bool z] 43))
  have c1 : (w.alloc (.cells #[.string T, .bool r, .bool z] 43)).cell? ⟨w.heap.size, 1, none⟩ = some (.bool r) := by rw [cell_of_row _ _ _ _ 43 _ (heap_alloc_last w _)]; rfl
  have c2 : (w.alloc (.cells #[.string T, .bool r, .bool z] 43)).cell? ⟨w.heap.size, 2, none⟩ = some (.bool z) := by rw [cell_of_row _ _ _ _ 43 _ (heap_alloc_last w _)]; rfl
  go_enter Try.func31, Try.ntmps31
  go_wp2_with fail
  go_ret
  exact ⟨rfl, HB.out⟩
set_option maxHeartbeats 1000000 in
theorem clo_writes (T : ByteArray) (r z : Bool) (w : World) : Calls Try.prog 32 #[.agg #[.string T, .bool r, .bool z]] w fun e w' => e = .returned (.bool z) ∧ Below w.heap.size w w' := by
  have HB := Lib.hid (bel1 w (.cells #[.string T, .bool r, .bool z] 43))
  have c1 : (w.alloc (.cells #[.string T, .bool r, .bool z] 43)).cell? ⟨w.heap.size, 1, none⟩ = some (.bool r) := by rw [cell_of_row _ _ _ _ 43 _ (heap_alloc_last w _)]; rfl
  have c2 : (w.alloc (.cells #[.string T, .bool r, .bool z] 43)).cell? ⟨w.heap.size, 2, none⟩ = some (.bool z) := by rw [cell_of_row _ _ _ _ 43 _ (heap_alloc_last w _)]; rfl
  go_enter Try.func32, Try.ntmps32
  go_wp2_with fail
  go_ret
  exact ⟨rfl, HB.out⟩
set_option maxHeartbeats 4000000 in
theorem those_reads (q : Option Addr) (L : List U) (n c : Nat) (x0 x2 x3 x4 : Value) (w : World) (hn : L.length = n) (h : Us w q L) (hz : n ≤ 1048576) :
    Calls Try.prog 30 #[.agg #[x0, .slice q n c, x2, x3, x4], .func (.func 31) #[] #[]] w (TextsP (readsL L) w) := by
  have HU := Lib.hid h
  have HN := Lib.hid hn
  have HE := Lib.hid (reads_take L)
  have HW := Lib.hid (bel1 w (.cells #[x0, .slice q n c, x2, x3, x4] 27))
  have HC1 := Lib.hid (need_cells w x0 (.slice q n c) x2 x3 x4 w.heap.size rfl)
  have hc1 := HC1.out
  have HSz := Lib.hid (show w.heap.size < (w.alloc (.cells #[x0, .slice q n c, x2, x3, x4] 27)).heap.size by simp)
  have CL := Lib.hid clo_reads
  clear hn h
  go_enter Try.func30, Try.ntmps30
  go_wp2_with fail
  clear hc1 HC1 HSz
  generalize w.alloc (.cells #[x0, .slice q n c, x2, x3, x4] 27) = W1 at HW ⊢
  go_loopw [5, 11] (fun v i wr => ∃ k : Nat, k ≤ n ∧ i = .int .i64 k ∧ Hid (OwnS W1.heap.size wr v (readsL (L.take k))) ∧ Hid (Below W1.heap.size W1 wr)) (fun _ i _ => n - (intOf i).toNat)
  case atStart => exact ⟨0, Nat.zero_le _, rfl, Lib.hid (ownS_none _ _), Lib.hid (Below.refl _ _)⟩
  case round =>
    obtain ⟨k, hk, rfl, HOw, HB⟩ := hrel
    by_cases hlt : k < n
    · have d1 : decide ((k : Int) < (n : Int)) = true := decide_eq_true (by omega)
      have hk0 : (0 : Int) ≤ (k : Int) := by omega
      have hkn : (k : Int) < (n : Int) := by omega
      have hkL : k < L.length := by rw [HN.out]; exact hlt
      obtain ⟨b, off, rfl, hbl, hu0, hu1, hu2⟩ := (HU.out.keep (HW.out.trans (HB.out.mono HW.out.size))).cells k hkL
      have HNx := Lib.hid (HE.out k hkL)
      obtain ⟨x, hx⟩ : ∃ x : U, x = L[k] := ⟨_, rfl⟩
      rw [← hx] at hu0 hu1 hu2 HNx
      obtain ⟨xk, xr, xw⟩ := x
      simp only at hu0 hu1 hu2 HNx
      obtain ⟨T, hT⟩ : ∃ T : ByteArray, T = ⟨xk.toArray⟩ := ⟨_, rfl⟩
      rw [← hT] at hu0
      have HT := Lib.hid (show T.data.toList = xk by rw [hT])
      have HBx := Lib.hid (HB.out.alloc HB.out.size (.cells #[.string T, .bool xr, .bool xw] 43))
      have HOx := Lib.hid (HOw.out.keep (bel1 wr (.cells #[.string T, .bool xr, .bool xw] 43)))
      have HD := Lib.hid (show (wr.alloc (.cells #[.string T, .bool xr, .bool xw] 43)).heap[wr.heap.size]? = some (.cells #[.string T, .bool xr, .bool xw] 43 (0, 0)) from heap_alloc_last wr _)
      have HCs := Lib.hid (show (Try.prog.info? 43).map (·.size) = some (#[.string T, .bool xr, .bool xw] : Array Value).size from use_size)
      have HSw := Lib.hid (show wr.heap.size < (wr.alloc (.cells #[.string T, .bool xr, .bool xw] 43)).heap.size by simp)
      clear hx hT
      go_wp2_with (with_reducible refine wpList_load_row rfl 43 (.tmp 7) rfl wr.heap.size rfl 43 #[.string T, .bool xr, .bool xw] (0, 0) _ HD.out Try.underlying43 rfl HCs.out ?_)
      generalize wr.alloc (.cells #[.string T, .bool xr, .bool xw] 43) = w2 at HBx HOx HD HSw ⊢
      with_reducible refine (CL.out T xr xw w2).mono ?_
      rintro e w3 ⟨rfl, hb3⟩
      have HB3 := Lib.hid (HBx.out.trans (hb3.mono HBx.out.size))
      have HO3 := Lib.hid (HOx.out.keep hb3)
      have hu3 : w3.cell? ⟨wr.heap.size, 0, none⟩ = some (.string T) := by
        rw [hb3.cell (p := ⟨wr.heap.size, 0, none⟩) HSw.out, cell_of_row _ _ _ _ 43 _ HD.out]
        rfl
      clear hb3 HBx HOx HD HSw
      cases xr with
      | true =>
        have HO1 := Lib.hid (HO3.out.keep (bel1 w3 (.cells #[.string T] 9)))
        have HC := Lib.hid (show (w3.alloc (.cells #[.string T] 9)).cell? ⟨w3.heap.size, 0, none⟩ = some (.string T) by simp [World.cell?_alloc_mark])
        have HBa := Lib.hid (HB3.out.alloc HB3.out.size (.cells #[.string T] 9))
        have HLn := Lib.hid (show (readsL (L.take k)).length ≤ 1048576 by have := reads_len (L.take k); rw [List.length_take] at this; omega)
        go_wp2_with (at_builtin; refine wpList_append_s (w0 := W1) rfl (.tmp 18) (.tmp 21) rfl _ _ rfl HO1.out HBa.out w3.heap.size T xk 1 rfl HT.out HC.out HLn.out ?_; intro v' w4 hown1 hb4)
        go_roundw
        case rel => exact ⟨k + 1, by omega, by go_num, Lib.hid (by rw [HNx.out]; exact hown1), Lib.hid hb4⟩
        case measure => simp [intOf]; omega
      | false =>
        go_wp2_with fail
        go_roundw
        case rel => exact ⟨k + 1, by omega, by go_num, Lib.hid (by rw [HNx.out]; simpa using HO3.out), HB3⟩
        case measure => simp [intOf]; omega
    · have d1 : decide ((k : Int) < (n : Int)) = false := decide_eq_false (by omega)
      obtain rfl : k = n := by omega
      have HX := Lib.hid (show AnsS w.heap.size wr u5 (readsL L) from by
        have h := HOw.out
        rw [List.take_of_length_le (by rw [HN.out]; omega)] at h
        exact ansS_low (ownS_ans h) HW.out.size)
      have HF := Lib.hid (HW.out.trans (HB.out.mono HW.out.size))
      go_wp2_with fail
      go_ret
      exact ⟨_, rfl, HX.out, HF.out⟩

set_option maxHeartbeats 4000000 in
theorem those_writes (q : Option Addr) (L : List U) (n c : Nat) (x0 x2 x3 x4 : Value) (w : World) (hn : L.length = n) (h : Us w q L) (hz : n ≤ 1048576) :
    Calls Try.prog 30 #[.agg #[x0, .slice q n c, x2, x3, x4], .func (.func 32) #[] #[]] w (TextsP (writesL L) w) := by
  have HU := Lib.hid h
  have HN := Lib.hid hn
  have HE := Lib.hid (writes_take L)
  have HW := Lib.hid (bel1 w (.cells #[x0, .slice q n c, x2, x3, x4] 27))
  have HC1 := Lib.hid (need_cells w x0 (.slice q n c) x2 x3 x4 w.heap.size rfl)
  have hc1 := HC1.out
  have HSz := Lib.hid (show w.heap.size < (w.alloc (.cells #[x0, .slice q n c, x2, x3, x4] 27)).heap.size by simp)
  have CL := Lib.hid clo_writes
  clear hn h
  go_enter Try.func30, Try.ntmps30
  go_wp2_with fail
  clear hc1 HC1 HSz
  generalize w.alloc (.cells #[x0, .slice q n c, x2, x3, x4] 27) = W1 at HW ⊢
  go_loopw [5, 11] (fun v i wr => ∃ k : Nat, k ≤ n ∧ i = .int .i64 k ∧ Hid (OwnS W1.heap.size wr v (writesL (L.take k))) ∧ Hid (Below W1.heap.size W1 wr)) (fun _ i _ => n - (intOf i).toNat)
  case atStart => exact ⟨0, Nat.zero_le _, rfl, Lib.hid (ownS_none _ _), Lib.hid (Below.refl _ _)⟩
  case round =>
    obtain ⟨k, hk, rfl, HOw, HB⟩ := hrel
    by_cases hlt : k < n
    · have d1 : decide ((k : Int) < (n : Int)) = true := decide_eq_true (by omega)
      have hk0 : (0 : Int) ≤ (k : Int) := by omega
      have hkn : (k : Int) < (n : Int) := by omega
      have hkL : k < L.length := by rw [HN.out]; exact hlt
      obtain ⟨b, off, rfl, hbl, hu0, hu1, hu2⟩ := (HU.out.keep (HW.out.trans (HB.out.mono HW.out.size))).cells k hkL
      have HNx := Lib.hid (HE.out k hkL)
      obtain ⟨x, hx⟩ : ∃ x : U, x = L[k] := ⟨_, rfl⟩
      rw [← hx] at hu0 hu1 hu2 HNx
      obtain ⟨xk, xr, xw⟩ := x
      simp only at hu0 hu1 hu2 HNx
      obtain ⟨T, hT⟩ : ∃ T : ByteArray, T = ⟨xk.toArray⟩ := ⟨_, rfl⟩
      rw [← hT] at hu0
      have HT := Lib.hid (show T.data.toList = xk by rw [hT])
      have HBx := Lib.hid (HB.out.alloc HB.out.size (.cells #[.string T, .bool xr, .bool xw] 43))
      have HOx := Lib.hid (HOw.out.keep (bel1 wr (.cells #[.string T, .bool xr, .bool xw] 43)))
      have HD := Lib.hid (show (wr.alloc (.cells #[.string T, .bool xr, .bool xw] 43)).heap[wr.heap.size]? = some (.cells #[.string T, .bool xr, .bool xw] 43 (0, 0)) from heap_alloc_last wr _)
      have HCs := Lib.hid (show (Try.prog.info? 43).map (·.size) = some (#[.string T, .bool xr, .bool xw] : Array Value).size from use_size)
      have HSw := Lib.hid (show wr.heap.size < (wr.alloc (.cells #[.string T, .bool xr, .bool xw] 43)).heap.size by simp)
      clear hx hT
      go_wp2_with (with_reducible refine wpList_load_row rfl 43 (.tmp 7) rfl wr.heap.size rfl 43 #[.string T, .bool xr, .bool xw] (0, 0) _ HD.out Try.underlying43 rfl HCs.out ?_)
      generalize wr.alloc (.cells #[.string T, .bool xr, .bool xw] 43) = w2 at HBx HOx HD HSw ⊢
      with_reducible refine (CL.out T xr xw w2).mono ?_
      rintro e w3 ⟨rfl, hb3⟩
      have HB3 := Lib.hid (HBx.out.trans (hb3.mono HBx.out.size))
      have HO3 := Lib.hid (HOx.out.keep hb3)
      have hu3 : w3.cell? ⟨wr.heap.size, 0, none⟩ = some (.string T) := by
        rw [hb3.cell (p := ⟨wr.heap.size, 0, none⟩) HSw.out, cell_of_row _ _ _ _ 43 _ HD.out]
        rfl
      clear hb3 HBx HOx HD HSw
      cases xw with
      | true =>
        have HO1 := Lib.hid (HO3.out.keep (bel1 w3 (.cells #[.string T] 9)))
        have HC := Lib.hid (show (w3.alloc (.cells #[.string T] 9)).cell? ⟨w3.heap.size, 0, none⟩ = some (.string T) by simp [World.cell?_alloc_mark])
        have HBa := Lib.hid (HB3.out.alloc HB3.out.size (.cells #[.string T] 9))
        have HLn := Lib.hid (show (writesL (L.take k)).length ≤ 1048576 by have := writes_len (L.take k); rw [List.length_take] at this; omega)
        go_wp2_with (at_builtin; refine wpList_append_s (w0 := W1) rfl (.tmp 18) (.tmp 21) rfl _ _ rfl HO1.out HBa.out w3.heap.size T xk 1 rfl HT.out HC.out HLn.out ?_; intro v' w4 hown1 hb4)
        go_roundw
        case rel => exact ⟨k + 1, by omega, by go_num, Lib.hid (by rw [HNx.out]; exact hown1), Lib.hid hb4⟩
        case measure => simp [intOf]; omega
      | false =>
        go_wp2_with fail
        go_roundw
        case rel => exact ⟨k + 1, by omega, by go_num, Lib.hid (by rw [HNx.out]; simpa using HO3.out), HB3⟩
        case measure => simp [intOf]; omega
    · have d1 : decide ((k : Int) < (n : Int)) = false := decide_eq_false (by omega)
      obtain rfl : k = n := by omega
      have HX := Lib.hid (show AnsS w.heap.size wr u5 (writesL L) from by
        have h := HOw.out
        rw [List.take_of_length_le (by rw [HN.out]; omega)] at h
        exact ansS_low (ownS_ans h) HW.out.size)
      have HF := Lib.hid (HW.out.trans (HB.out.mono HW.out.size))
      go_wp2_with fail
      go_ret
      exact ⟨_, rfl, HX.out, HF.out⟩

set_option maxHeartbeats 2000000 in
theorem reads_any (q : Option Addr) (L : List U) (n c : Nat) (x0 x2 x3 x4 : Value) (w : World) (hn : L.length = n) (h : Us w q L) (hz : n ≤ 1048576) (hcap : n ≤ c) (hcm : c ≤ 9223372036854775807) (hnil : q = none → c = 0) :
    Calls Try.prog 14 #[.agg #[x0, .slice q n c, x2, x3, x4]] w (TextsP (readsL L) w) := by
  have HW := Lib.hid (bel1 w (.cells #[x0, .slice q n c, x2, x3, x4] 27))
  have C := Lib.hid (those_reads q L n c x0 x2 x3 x4 (w.alloc (.cells #[x0, .slice q n c, x2, x3, x4] 27)) hn (h.keep HW.out) hz)
  have HD := Lib.hid (show (w.alloc (.cells #[x0, .slice q n c, x2, x3, x4] 27)).heap[w.heap.size]? = some (.cells #[x0, .slice q n c, x2, x3, x4] 27 (0, 0)) from heap_alloc_last w _)
  have HCs := Lib.hid (show (Try.prog.info? 27).map (·.size) = some (#[x0, .slice q n c, x2, x3, x4] : Array Value).size from need_size)
  clear hn h hnil
  go_enter Try.func14, Try.ntmps14
  go_wp2_with (with_reducible refine wpList_load_row rfl 27 (.tmp 1) rfl w.heap.size rfl 27 #[x0, .slice q n c, x2, x3, x4] (0, 0) _ HD.out Try.underlying27 rfl HCs.out ?_)
  with_reducible refine C.out.mono ?_
  rintro e w1 ⟨v, rfl, hv, hb⟩
  have HX := Lib.hid (ansS_low hv HW.out.size)
  have HF := Lib.hid (HW.out.trans (hb.mono HW.out.size))
  clear hv hb
  go_wp2_with fail
  go_ret
  exact ⟨_, rfl, HX.out, HF.out⟩

set_option maxHeartbeats 2000000 in
theorem writes_any (q : Option Addr) (L : List U) (n c : Nat) (x0 x2 x3 x4 : Value) (w : World) (hn : L.length = n) (h : Us w q L) (hz : n ≤ 1048576) (hcap : n ≤ c) (hcm : c ≤ 9223372036854775807) (hnil : q = none → c = 0) :
    Calls Try.prog 16 #[.agg #[x0, .slice q n c, x2, x3, x4]] w (TextsP (writesL L) w) := by
  have HW := Lib.hid (bel1 w (.cells #[x0, .slice q n c, x2, x3, x4] 27))
  have C := Lib.hid (those_writes q L n c x0 x2 x3 x4 (w.alloc (.cells #[x0, .slice q n c, x2, x3, x4] 27)) hn (h.keep HW.out) hz)
  have HD := Lib.hid (show (w.alloc (.cells #[x0, .slice q n c, x2, x3, x4] 27)).heap[w.heap.size]? = some (.cells #[x0, .slice q n c, x2, x3, x4] 27 (0, 0)) from heap_alloc_last w _)
  have HCs := Lib.hid (show (Try.prog.info? 27).map (·.size) = some (#[x0, .slice q n c, x2, x3, x4] : Array Value).size from need_size)
  clear hn h hnil
  go_enter Try.func16, Try.ntmps16
  go_wp2_with (with_reducible refine wpList_load_row rfl 27 (.tmp 1) rfl w.heap.size rfl 27 #[x0, .slice q n c, x2, x3, x4] (0, 0) _ HD.out Try.underlying27 rfl HCs.out ?_)
  with_reducible refine C.out.mono ?_
  rintro e w1 ⟨v, rfl, hv, hb⟩
  have HX := Lib.hid (ansS_low hv HW.out.size)
  have HF := Lib.hid (HW.out.trans (hb.mono HW.out.size))
  clear hv hb
  go_wp2_with fail
  go_ret
  exact ⟨_, rfl, HX.out, HF.out⟩

end Go.Proofs.Ytonoelpmmjnpeaa.UseM
