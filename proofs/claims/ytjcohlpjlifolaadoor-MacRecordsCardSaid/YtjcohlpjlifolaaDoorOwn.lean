/-
  Rows of bytes that the call owns or that came in, and arrays of 32 bytes that are compared.
-/
import Derived.Test.YtjcohlpjlifolaaDoorShaSum
import Derived.Lib.SlBytesConst
import Derived.Lib.SmallJoins
import Derived.Stop.BytesEq
namespace Go.Proofs.YtjcohlpjlifolaaDoor.ShaT
open Go.RowKit Kit ShaMath
set_option linter.unusedVariables false

theorem size_u8 (w : World) : (Go.sizeOf 5).run Tryd.prog w = .ok 1 w := by kernel_rfl
theorem arr_lit {w : World} {b n : Nat} {k : IntKind} {t : TypeId} {f : Nat → Nat} (h : Arr w b k n t f) (j : Nat) (hj : j < n) (v : Nat) (hv : f j = v) : w.cell? ⟨b, j, none⟩ = some (.int k (v : Int)) := by
  rw [← hv]; exact h.at_ j hj

theorem Bs.take {w : World} {p : Option Addr} {l : List UInt8} (h : Bs w p l) (n : Nat) : Bs w p (l.take n) := by
  intro h0
  rw [List.length_take] at h0
  obtain ⟨b, off, hp, hlt, hc⟩ := h (by omega)
  refine ⟨b, off, hp, hlt, fun j hj => ?_⟩
  rw [List.length_take] at hj
  rw [hc j (by omega)]
  simp

/-- A row that the call owns, as one that came in. -/
theorem own_bs {w : World} {base n : Nat} {v : Value} {l : List UInt8} (h : w.ownsRow base 5 1 v n (bv l)) : ∃ p c, v = .slice p l.length c ∧ Bs w p l := by
  have hl : l.length = n := by have := h.1; rw [bv_length] at this; omega
  rcases h.2 with ⟨rfl, h0⟩ | ⟨g, cap, cur, rfl, hgb, hh, hc, _, hsz, htake⟩
  · have : l = [] := List.eq_nil_of_length_eq_zero (by omega)
    subst this
    exact ⟨none, 0, rfl, fun h => absurd h (by simp)⟩
  · refine ⟨_, cap, by rw [hl], fun h0 => ⟨g, 0, rfl, ?_, fun j hj => ?_⟩⟩
    · rcases Nat.lt_or_ge g w.heap.size with h' | h'
      · exact h'
      · rw [Array.getElem?_eq_none h'] at hh; cases hh
    · rw [Nat.zero_add, h.cellAt j (by omega)]
      simp [bv, hj]
/-- 'string(b)' of a row that came in. -/
theorem bs_string {w : World} {p : Option Addr} {l : List UInt8} (h : Bs w p l) (cap : Nat) : (convert 22 9 (.slice p l.length cap)).run Tryd.prog w = .ok (.string ⟨l.toArray⟩) w := by
  have hz : (⟨l.toArray⟩ : ByteArray).size = l.length := by simp [ByteArray.size]
  by_cases h0 : 0 < l.length
  · obtain ⟨b, off, rfl, hlt, hc⟩ := h h0
    have := Lib.run_convert_whole (P := Tryd.prog) w 22 5 9 Tryd.underlying22 Tryd.underlying5 Tryd.underlying9 b off ⟨l.toArray⟩ (fun i hi => by
      rw [hz] at hi
      rw [hc i hi]
      rfl) cap
    rw [hz] at this
    exact this
  · have : l = [] := List.eq_nil_of_length_eq_zero (by omega)
    subst this
    show (convert 22 9 (.slice p 0 cap)).run Tryd.prog w = _
    rw [run_convert_bytes_string w 22 9 5 _ 0 cap Tryd.underlying22 Tryd.underlying5 Tryd.underlying9]
    cases p <;> simp [Conv.bytesToString, loadCells, loadCellsFrom]
    all_goals rfl
theorem size_bytes (l : List UInt8) : (⟨l.toArray⟩ : ByteArray).size = l.length := by simp [ByteArray.size]
theorem bytes_self (s : ByteArray) : (⟨s.data.toList.toArray⟩ : ByteArray) = s := rfl

theorem app_size (h : ByteArray) (c : UInt8) : (h ++ (⟨#[c]⟩ : ByteArray)).size = h.size + 1 := by
  rw [ByteArray.size_append]
  rfl
theorem tb_lt (s : W8) (i : Nat) : tb s i < 256 := by unfold tb; omega
theorem row_cells (n : Nat) (f : Nat → Nat) (hf : ∀ i, f i < 256) : row .u8 n f = (((List.range n).map fun j => UInt8.ofNat (f j)).map Extern.Stop.cell).toArray := by
  unfold row
  congr 1
  rw [List.map_map]
  apply List.map_congr_left
  intro j _
  have := hf j
  simp only [Function.comp_def, Extern.Stop.cell, UInt8.toNat_ofNat']
  rw [Nat.mod_eq_of_lt (by omega)]
  rfl
theorem eql_row (f : Nat → Nat) (hf : ∀ i, f i < 256) (w : World) : (Op.equalIn 10000 25 (.agg (row .u8 32 f)) (.agg (row .u8 32 f))).run Tryd.prog w = .ok true w := by
  rw [row_cells 32 f hf]
  have h := run_equalIn_bytes (P := Tryd.prog) w 9998 25 5 32 Tryd.underlying25 Tryd.underlying5 (fun w => size_u8 w) _ _ (show ((List.range 32).map fun j => UInt8.ofNat (f j)).length = 32 by simp) (show ((List.range 32).map fun j => UInt8.ofNat (f j)).length = 32 by simp)
  rw [h]
  simp

end Go.Proofs.YtjcohlpjlifolaaDoor.ShaT
