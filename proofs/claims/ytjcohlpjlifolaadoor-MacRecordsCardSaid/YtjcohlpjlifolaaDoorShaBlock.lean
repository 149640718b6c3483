/-
  What sha.block comes to: the first 64 bytes of a row, and bytes 0 behind it.
-/
import Derived.Test.YtjcohlpjlifolaaDoorShaTurn
import Derived.Laws.CopyOwn
import Derived.Laws.Tables
import Derived.Laws.Rows
import Derived.Deep.WholeRow
namespace Go.Proofs.YtjcohlpjlifolaaDoor.ShaT
open Go.RowKit Kit ShaMath
set_option linter.unusedVariables false

/-- A row of bytes that came in. -/
def Bs (w : World) (p : Option Addr) (l : List UInt8) : Prop :=
  0 < l.length → ∃ b off, p = some ⟨b, off, none⟩ ∧ b < w.heap.size ∧ ∀ j (h : j < l.length), w.cell? ⟨b, off + j, none⟩ = some (.int .u8 (l[j].toNat : Int))
theorem Bs.keep {w w' : World} {p : Option Addr} {l : List UInt8} (h : Bs w p l) (hb : Below w.heap.size w w') : Bs w' p l := by
  intro h0
  obtain ⟨b, off, hp, hlt, hc⟩ := h h0
  exact ⟨b, off, hp, Nat.lt_of_lt_of_le hlt hb.size, fun j hj => by rw [hb.cell (p := ⟨b, off + j, none⟩) hlt]; exact hc j hj⟩

def b64 (l : List UInt8) : List Value := (List.range 64).map fun j => Value.int .u8 (byte l j : Int)
theorem b64_length (l : List UInt8) : (b64 l).length = 64 := by simp [b64]
def z64 : List Value := List.replicate 64 (.int .u8 0)
theorem bv_at (l : List UInt8) (j : Nat) (h : j < l.length) : (bv l)[j]? = some (.int .u8 (l[j].toNat : Int)) := by simp [bv, h]
theorem splice_b64 (l : List UInt8) : splice z64 0 (bv (l.take 64)) = b64 l := by
  apply List.ext_getElem?
  intro i
  unfold splice b64 z64
  simp only [List.take_zero, List.nil_append, Nat.zero_add, bv_length, List.length_take]
  by_cases hi : i < 64
  · by_cases h : i < l.length
    · rw [List.getElem?_append_left (by rw [bv_length, List.length_take]; omega)]
      simp [bv, hi, h, byte]
    · rw [List.getElem?_append_right (by rw [bv_length, List.length_take]; omega)]
      have : byte l i = 0 := by simp [byte, List.getD_eq_getElem?_getD, List.getElem?_eq_none (show l.length ≤ i by omega)]
      rw [bv_length, List.length_take, List.getElem?_drop, List.getElem?_replicate, if_pos (by omega)]
      simp [hi, this]
  · rw [List.getElem?_eq_none (by simp [bv_length]; omega), List.getElem?_eq_none (by simp; omega)]
theorem b64_cell (l : List UInt8) (j : Nat) (h : j < 64) : (b64 l)[j]? = some (.int .u8 (byte l j : Int)) := by simp [b64, h]
theorem b64_one (l : List UInt8) : (b64 l).toArray.all (·.oneCell') = true := by
  simp [b64, Value.oneCell']

theorem info_b64 : (Tryd.prog.info? 46).map (fun i => (i.zero, i.size)) = some (some (.agg z64.toArray), 64) := by kernel_rfl

set_option maxHeartbeats 1000000 in
theorem block_any (p : Option Addr) (l : List UInt8) (cap : Nat) (w : World) (hs : Bs w p l) (hl : l.length ≤ maxLen) :
    Calls Tryd.prog 38 #[.slice p l.length cap] w fun e w' => e = .returned (.agg (b64 l).toArray) ∧ Below w.heap.size w w' := by
  unfold maxLen at hl
  obtain ⟨hz, hn⟩ := zero_of_info info_b64
  have hsz : (Tryd.prog.info? 5).map (·.size) = some 1 := by kernel_rfl
  obtain ⟨X, hX⟩ : ∃ X, X = bv (l.take 64) := ⟨_, rfl⟩
  have HX := Lib.hid hX
  have hXl : X.length = Nat.min l.length 64 := by rw [hX, bv_length, List.length_take]; exact Nat.min_comm _ _
  have hX1 : ∀ v ∈ X, v.oneCell' = true := by rw [hX]; exact bv_one _
  have hXc : 0 < X.length → ∃ ad, p = some ad ∧ ∀ j v, X[j]? = some v → w.cell? (ad.add j) = some v ∧ ad.block < w.heap.size := by
    intro h0
    rw [hXl] at h0
    obtain ⟨b, off, hp, hlt, hc⟩ := hs (by have : Nat.min l.length 64 ≤ l.length := Nat.min_le_left _ _; omega)
    refine ⟨_, hp, fun j v hv => ⟨?_, hlt⟩⟩
    have hj : j < l.length := by
      have h1 : j < X.length := by
        rcases Nat.lt_or_ge j X.length with h | h
        · exact h
        · rw [List.getElem?_eq_none h] at hv; cases hv
      have : Nat.min l.length 64 ≤ l.length := Nat.min_le_left _ _
      omega
    have hj2 : j < 64 := by
      have h1 : j < X.length := by
        rcases Nat.lt_or_ge j X.length with h | h
        · exact h
        · rw [List.getElem?_eq_none h] at hv; cases hv
      have : Nat.min l.length 64 ≤ 64 := Nat.min_le_right _ _
      omega
    rw [hX] at hv
    have hv2 : (bv (l.take 64))[j]? = some (.int .u8 (l[j].toNat : Int)) := by simp [bv, hj, hj2]
    have hv3 := Option.some.inj (hv2.symm.trans hv)
    subst hv3
    have : (⟨b, off, none⟩ : Addr).add j = ⟨b, off + j, none⟩ := by simp [Addr.add]
    rw [this]
    exact hc j hj
  have HXl := Lib.hid hXl
  have HX1 := Lib.hid hX1
  have HXc := Lib.hid hXc
  clear hX hXl hX1 hXc
  have HN := Lib.hid hn
  have HSZ := Lib.hid hsz
  clear hn hsz
  have HSP := Lib.hid (splice_b64 l)
  go_enter Tryd.func38, Tryd.ntmps38
  go_wp2_with (with_reducible refine wpList_copy_splice rfl (.tmp 4) (.tmp 5) 22 22 rfl 5 Tryd.underlying22 HSZ.out (some ⟨w.heap.size + 1, 0, none⟩) p 64 64 l.length cap rfl rfl (w.heap.size + 1) 0 z64 46 (heap_alloc2_new _ _ _) X HXl.out ?c1 ?c2 HX1.out (w.heap.size + 1) _ (Below.refl _ _) (Nat.le_refl _) ?_)
  case c2 => rw [HXl.out, show z64.length = 64 by simp [z64]]; have : Nat.min l.length 64 ≤ 64 := Nat.min_le_right _ _; omega
  case c1 =>
    intro h0
    obtain ⟨ad, hp, hc⟩ := HXc.out h0
    refine ⟨ad, hp, fun j v hv => ?_⟩
    obtain ⟨h1, h2⟩ := hc j v hv
    rw [← h1]
    have hb2 : Below w.heap.size w ((w.alloc (.cells z64.toArray 46)).alloc (.cells z64.toArray 46)) := ((Below.refl _ _).alloc (Nat.le_refl _) _).alloc (by simp) _
    exact hb2.cell (p := ad.add j) (by have : (ad.add j).block = ad.block := by unfold Addr.add; split <;> rfl
                                       omega)
  intro w1 hg1 hb1
  have hres : Hid (w1.heap[w.heap.size]? = some (.cells z64.toArray 46)) := by
    have := hb1.block w.heap.size (by omega)
    rw [this]
    exact heap_alloc2_old _ _ _
  have hbw : Below w.heap.size w w1 := ((((Below.refl _ _).alloc (Nat.le_refl _) _).alloc (by simp) _).trans (hb1.mono (by omega)))
  have hg2 : Hid (w1.heap[w.heap.size + 1]? = some (.cells (b64 l).toArray 46)) := Lib.hid (by rw [hg1.out, HX.out, HSP.out])
  have HC : Hid ((Tryd.prog.info? 46).map (·.size) = some (b64 l).toArray.size) := Lib.hid (by rw [HN.out]; simp [b64])
  have HC2 : Hid (z64.toArray.size = (b64 l).toArray.size) := Lib.hid (by simp [b64, z64])
  have HO := Lib.hid (b64_one l)
  clear hg1 hb1 HSP HX HX1 HXl HXc
  go_wp2_with (first | (with_reducible refine wpList_load_row rfl 46 (.tmp 3) rfl (w.heap.size + 1) rfl 46 _ (0, 0) _ hg2.out Tryd.underlying46 rfl HC.out ?_) | (with_reducible refine wpList_store_row rfl 46 (.tmp 2) (.tmp 7) rfl w.heap.size (b64 l).toArray rfl rfl 46 _ hres.out HC.out HC2.out HO.out ?_))
  refine bodyPost_ret (results_cell_row rfl _ _ w.heap.size 46 (b64 l).toArray (0, 0) _ rfl (setRow_heap w1 w.heap.size _ _ _ _ hres.out) Tryd.underlying46 rfl HC.out) rfl ⟨rfl, below_setRow hbw (Nat.le_refl _) _⟩

end Go.Proofs.YtjcohlpjlifolaaDoor.ShaT
