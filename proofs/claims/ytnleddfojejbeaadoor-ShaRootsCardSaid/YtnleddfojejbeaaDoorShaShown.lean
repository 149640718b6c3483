/-
  What the head of the statements comes to (the document's examples), and a row that is cut to 300 bytes.
-/
import Derived.Test.YtnleddfojejbeaaDoorShaSum
import Derived.Lib.SlBytesConst
import Derived.Lib.SmallJoins
namespace Go.Proofs.YtnleddfojejbeaaDoor.ShaT
open Go.RowKit Kit ShaMath
set_option linter.unusedVariables false

theorem none0 : sumAt [] 0 = 227 := by decide +kernel
theorem none1 : sumAt [] 1 = 176 := by decide +kernel
theorem none2 : sumAt [] 2 = 196 := by decide +kernel
theorem none3 : sumAt [] 3 = 66 := by decide +kernel
theorem abc0 : sumAt [97, 98, 99] 0 = 186 := by decide +kernel
theorem abc1 : sumAt [97, 98, 99] 1 = 120 := by decide +kernel
theorem abc2 : sumAt [97, 98, 99] 2 = 22 := by decide +kernel
theorem abc3 : sumAt [97, 98, 99] 3 = 191 := by decide +kernel
theorem arr_lit {w : World} {b n : Nat} {k : IntKind} {t : TypeId} {f : Nat → Nat} (h : Arr w b k n t f) (j : Nat) (hj : j < n) (v : Nat) (hv : f j = v) : w.cell? ⟨b, j, none⟩ = some (.int k (v : Int)) := by
  rw [← hv]; exact h.at_ j hj

set_option maxHeartbeats 1000000 in
theorem shown_any (w : World) (hg : Tabs w) :
    Calls Tryd.prog 7 #[] w fun e w' => e = .returned (.bool true) ∧ Below w.heap.size w w' := by
  obtain ⟨hz, hn⟩ := zero_of_info info_32
  have HN := Lib.hid hn
  clear hn
  have hcv := fun (w : World) (C : Array Value) (n c : Nat) => Lib.run_convert_bytes_const (P := Tryd.prog) w 22 5 C n c Tryd.underlying22 Tryd.underlying5
  go_enter Tryd.func7, Tryd.ntmps7
  go_wp2_with fail
  refine (sum_any none [] 0 _ (fun h => absurd h (by simp)) (by simp) (by simp) (by simp) hg).mono ?_
  rintro e w1 ⟨rfl, hb1⟩
  have HB1 := Lib.hid hb1
  go_wp2_with ((with_reducible refine wpList_store_arr rfl 25 (.tmp 1) (.tmp 3) rfl w1.heap.size .u8 32 (sumAt []) rfl rfl 25 _ Arr.new HN ?_); have hA : Arr ((w1.alloc (.cells (row .u8 32 fun _ => 0) 25)).setRow w1.heap.size (row .u8 32 (sumAt []))) w1.heap.size .u8 32 25 (sumAt []) := Arr.new.setRow _; have hb2 : Below w.heap.size w ((w1.alloc (.cells (row .u8 32 fun _ => 0) 25)).setRow w1.heap.size (row .u8 32 (sumAt []))) := below_setRow (HB1.out.alloc HB1.out.size _) HB1.out.size _; generalize World.setRow _ _ _ = w2 at hA hb2 ⊢; have HA := Lib.hid hA; have HB2 := Lib.hid hb2; clear hA hb2)
  refine (sum_any (some ⟨w2.heap.size, 0, none⟩) [97, 98, 99] 3 _ ?hb (by simp) (by simp) (by simp) ?hg).mono ?_
  case hg => exact hg.keep (HB2.out.alloc HB2.out.size _)
  case hb =>
    intro _
    refine ⟨_, 0, rfl, by simp, fun j hj => ?_⟩
    rw [show 0 + j = j by omega, World.cell?_alloc_mark]
    match j, hj with
    | 0, _ => rfl
    | 1, _ => rfl
    | 2, _ => rfl
    | j + 3, hj => simp at hj; omega
  rintro e w3 ⟨rfl, hb3⟩
  have HA3 := Lib.hid ((HA.out.al _).keep hb3 (by have := HA.out.lt; simp; omega))
  have HB3 := Lib.hid ((HB2.out.alloc HB2.out.size _).trans (hb3.mono (by have := HB2.out.size; simp; omega)))
  clear hb3 hb1 HB2 HA
  have hA : Arr ((w3.alloc (.cells (row .u8 32 fun _ => 0) 25)).setRow w3.heap.size (row .u8 32 (sumAt [97, 98, 99]))) w3.heap.size .u8 32 25 (sumAt [97, 98, 99]) := Arr.new.setRow _
  have hA1 : Arr ((w3.alloc (.cells (row .u8 32 fun _ => 0) 25)).setRow w3.heap.size (row .u8 32 (sumAt [97, 98, 99]))) w1.heap.size .u8 32 25 (sumAt []) := (HA3.out.al _).setRow_ne _ (by have := HA3.out.lt; omega)
  have hb4 : Below w.heap.size w ((w3.alloc (.cells (row .u8 32 fun _ => 0) 25)).setRow w3.heap.size (row .u8 32 (sumAt [97, 98, 99]))) := below_setRow (HB3.out.alloc HB3.out.size _) HB3.out.size _
  have HB4 := Lib.hid hb4
  have a0 := arr_lit hA1 0 (by decide) _ none0
  have a1 := arr_lit hA1 1 (by decide) _ none1
  have a2 := arr_lit hA1 2 (by decide) _ none2
  have a3 := arr_lit hA1 3 (by decide) _ none3
  have b0 := arr_lit hA 0 (by decide) _ abc0
  have b1 := arr_lit hA 1 (by decide) _ abc1
  have b2 := arr_lit hA 2 (by decide) _ abc2
  have b3 := arr_lit hA 3 (by decide) _ abc3
  clear hA hA1 hb4
  go_wp2_with (with_reducible refine wpList_store_arr rfl 25 (.tmp 2) (.tmp 6) rfl w3.heap.size .u8 32 (sumAt [97, 98, 99]) rfl rfl 25 _ Arr.new HN ?_)
  go_ret
  exact ⟨rfl, HB4.out⟩

theorem Bs.take {w : World} {p : Option Addr} {l : List UInt8} (h : Bs w p l) (n : Nat) : Bs w p (l.take n) := by
  intro h0
  rw [List.length_take] at h0
  obtain ⟨b, off, hp, hlt, hc⟩ := h (by omega)
  refine ⟨b, off, hp, hlt, fun j hj => ?_⟩
  rw [List.length_take] at hj
  rw [hc j (by omega)]
  simp

set_option maxHeartbeats 400000 in
theorem short_any (p : Option Addr) (l : List UInt8) (cap : Nat) (w : World) (hb : Bs w p l) (hl : l.length ≤ 281474976710656) (hlc : l.length ≤ cap) (hc : cap ≤ 9223372036854775807) :
    Calls Tryd.prog 8 #[.slice p l.length cap] w fun e w' => e = .returned (.slice p (l.take 300).length cap) ∧ w = w' := by
  by_cases h : l.length ≤ 300
  · have hd : decide (300 < (l.length : Int)) = false := decide_eq_false (by omega)
    have hv := Lib.hid (show (l.take 300).length = l.length by rw [List.length_take]; omega)
    go_enter Tryd.func8, Tryd.ntmps8
    go_wp2
    go_ret
    exact ⟨by rw [hv.out]; rfl, rfl⟩
  · have hd : decide (300 < (l.length : Int)) = true := decide_eq_true (by omega)
    have hv := Lib.hid (show (l.take 300).length = 300 by rw [List.length_take]; omega)
    obtain ⟨b, off, rfl, hlt, hc⟩ := hb (by omega)
    have HC := Lib.hid hc
    clear hc
    go_enter Tryd.func8, Tryd.ntmps8
    go_wp2
    go_ret
    exact ⟨by rw [hv.out]; rfl, rfl⟩

end Go.Proofs.YtnleddfojejbeaaDoor.ShaT
