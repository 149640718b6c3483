/-
  'tipstafflaw02.ShaSums': for all bytes it answers true.
-/
import Derived.Test.YtnleddfojejbeaaDoorShaShown
import Derived.Test.YtnleddfojejbeaaDoorRefSum
import Derived.Stop.BytesEq
namespace Go.Proofs.YtnleddfojejbeaaDoor.shaSums
open Go.RowKit Kit ShaMath ShaT HexW shaBack RefT
set_option linter.unusedVariables false
-- ASKS: ShaT.Tabs
-- NIL

theorem tb_lt (s : W8) (i : Nat) : tb s i < 256 := by unfold tb; omega
theorem row_cells (n : Nat) (f : Nat → Nat) (hf : ∀ i, f i < 256) : row .u8 n f = (((List.range n).map fun j => UInt8.ofNat (f j)).map Extern.Stop.cell).toArray := by
  unfold row
  congr 1
  rw [List.map_map]
  apply List.map_congr_left
  intro j _
  have := hf j
  simp only [Function.comp_def, Extern.Stop.cell, UInt8.toNat_ofNat']
  rw [Nat.mod_eq_of_lt (by omega)]
  rfl
theorem eql_row (f : Nat → Nat) (hf : ∀ i, f i < 256) (w : World) : (Op.equalIn 10000 25 (.agg (row .u8 32 f)) (.agg (row .u8 32 f))).run Tryd.prog w = .ok true w := by
  rw [row_cells 32 f hf]
  have h := run_equalIn_bytes (P := Tryd.prog) w 9998 25 5 32 Tryd.underlying25 Tryd.underlying5 (fun w => size_u8 w) _ _ (show ((List.range 32).map fun j => UInt8.ofNat (f j)).length = 32 by simp) (show ((List.range 32).map fun j => UInt8.ofNat (f j)).length = 32 by simp)
  rw [h]
  simp

set_option maxHeartbeats 2000000 in
theorem walk (p : Option Addr) (l : List UInt8) (cap : Nat) (w : World) (hb : Bs w p l) (hl : l.length ≤ 140737488351232) (hlc : l.length ≤ cap) (hc : cap ≤ 9223372036854775807) (hnil : p = none → cap = 0) (hg : Tabs w) :
    Calls Tryd.prog 3 #[.slice p l.length cap] w fun e w' => e = .returned (.bool true) ∧ Below w.heap.size w w' := by
  go_enter Tryd.func3, Tryd.ntmps3
  go_wp2_with fail
  refine (shown_any _ hg).mono ?_
  rintro e w1 ⟨rfl, hb1⟩
  have HB := Lib.hid (hb.keep hb1)
  have HG := Lib.hid (hg.keep hb1)
  have HB1 := Lib.hid hb1
  clear hb1
  go_wp2_with fail
  refine (short_any p l cap _ HB.out (by omega) hlc hc).mono ?_
  rintro e w' ⟨rfl, rfl⟩
  have HL2 := Lib.hid (HB.out.take 300)
  obtain ⟨r, hr⟩ : ∃ r, r = l.take 300 := ⟨_, rfl⟩
  have hrl : r.length ≤ 300 := by rw [hr, List.length_take]; omega
  have hrc : r.length ≤ cap := by rw [hr, List.length_take]; omega
  rw [← hr] at HL2 ⊢
  clear hr HB
  go_wp2_with fail
  refine (sum_any p r cap _ HL2.out (by omega) hrc hc HG.out).mono ?_
  rintro e w2 ⟨rfl, hb2⟩
  have HL3 := Lib.hid (HL2.out.keep hb2)
  have HB2 := Lib.hid (HB1.out.trans (hb2.mono HB1.out.size))
  clear hb2 HL2 HB1
  go_wp2_with fail
  refine (rsum_any p r cap _ HL3.out (by omega) hnil).mono ?_
  rintro e w3 ⟨rfl, hb3⟩
  have HB3 := Lib.hid (HB2.out.trans (hb3.mono HB2.out.size))
  have he := eql_row (sumAt r) (tb_lt _) w3
  clear hb3 HB2
  go_wp2_with fail
  go_ret
  exact ⟨rfl, HB3.out⟩

end Go.Proofs.YtnleddfojejbeaaDoor.shaSums
