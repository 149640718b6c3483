/-
  What mac.behind and mac.numbered come to: rows of bytes that the call has made.
-/
import Derived.Test.YtjcohlpjlifolaaDoorMacBlock
namespace Go.Proofs.YtjcohlpjlifolaaDoor.MacT
open Go.RowKit Kit ShaMath ShaT MacM
set_option linter.unusedVariables false
set_option maxRecDepth 100000

/-- A row of bytes of the call's own is handed back. -/
def Made (L : List UInt8) (w : World) (e : Ending) (w' : World) : Prop :=
  ∃ g, e = .returned (.slice (some ⟨g, 0, none⟩) L.length L.length) ∧ Byt w' g 5 L ∧ Below w.heap.size w w'

theorem made_byt1 (w : World) (o : Obj) (n : Nat) : Byt ((w.alloc o).alloc (.cells (madeCells #[.int .u8 0] n) 5)) (w.heap.size + 1) 5 (zeros n) := by
  unfold Byt
  rw [made_bv]
  have := heap_alloc_last (w.alloc o) (.cells (bv (zeros n)).toArray 5)
  rwa [show (w.alloc o).heap.size = w.heap.size + 1 by simp] at this
theorem made_byt0 (w : World) (n : Nat) : Byt (w.alloc (.cells (madeCells #[.int .u8 0] n) 5)) w.heap.size 5 (zeros n) := by
  unfold Byt
  rw [made_bv]
  exact heap_alloc_last w _

set_option maxHeartbeats 2000000 in
theorem behind_nil (K : Nat → Nat) (hK : ∀ j, K j < 256) (p : Option Addr) (cap : Nat) (w : World) :
    Calls Tryd.prog 41 #[.agg (row .u8 64 K), .slice p 0 cap] w (Made (bytesOf 64 K) w) := by
  obtain ⟨i0, hi0, hz0, hz1, hzb⟩ := info_parts u8_parts
  have hmk := run_make (P := Tryd.prog) (w.alloc (.cells (row .u8 64 K) 46)) 22 5 i0 (.int .u8 0) Tryd.underlying22 hi0 hz0 .i64 .i64 64 64 (by omega) (by omega) (by rw [hzb]; omega) (by omega)
  rw [hz1, show (64 : Int).toNat * 1 = 64 by omega, show (64 : Int).toNat = 64 by omega] at hmk
  have HU := Lib.hid info_u8
  obtain ⟨KL, hKL⟩ : ∃ KL, KL = bytesOf 64 K := ⟨_, rfl⟩
  have HKL := Lib.hid hKL
  have HKN := Lib.hid (show KL.length = 64 by rw [hKL]; exact bytesOf_length _ _)
  rw [← hKL]
  clear hKL
  have HZ := Lib.hid (show KL = (zeros 64).take 0 ++ KL ++ (zeros 64).drop (0 + KL.length) by
    rw [List.take_zero, List.nil_append, Nat.zero_add, HKN.out, List.drop_of_length_le (by rw [zeros_length]; omega), List.append_nil])
  have HZ2 := Lib.hid (show KL = KL.take 0 ++ [] ++ KL.drop (0 + ([] : List UInt8).length) by simp)
  go_enter Tryd.func41, Tryd.ntmps41
  go_wp2_with (with_reducible refine wpList_copy_bytes rfl (.tmp 10) (.tmp 11) 22 rfl 5 Tryd.underlying22 HU.out (w.heap.size + 1) 0 64 64 (some ⟨w.heap.size, 0, none⟩) 64 (zeros 64) KL 5 rfl ?c0 ?c1 ?c2 ?c3 ?c4 (w.heap.size + 1) _ (Below.refl _ _) (Nat.le_refl _) KL HZ.out ?_)
  case c0 => rw [HKN.out]; rfl
  case c1 => exact made_byt1 _ _ _
  case c2 => rw [HKN.out]; omega
  case c3 => rw [HKL.out]; exact arr_bs (Arr.new.al _) hK
  case c4 => rw [zeros_length, HKN.out]; omega
  intro w1 hB1 hb1
  have hb1' := (below2 w (.cells (row .u8 64 K) 46) (.cells (madeCells #[.int .u8 0] 64) 5)).trans (hb1.mono (by omega))
  clear hb1
  go_wp2_with (with_reducible refine wpList_copy_bytes rfl (.tmp 14) (.tmp 15) 22 rfl 5 Tryd.underlying22 HU.out (w.heap.size + 1) 0 _ _ p cap KL [] 5 rfl ?d1 hB1 ?d2 ?d3 ?d4 w.heap.size w hb1' (by omega) KL HZ2.out ?_)
  case d1 => rfl
  case d2 => simp
  case d3 => exact fun h => absurd h (by simp)
  case d4 => simp
  intro w2 hB2 hb2
  clear hB1 hb1'
  go_wp2_with fail
  go_ret
  exact ⟨w.heap.size + 1, by rw [HKN.out]; rfl, hB2, hb2⟩

set_option maxHeartbeats 2000000 in
theorem behind_any (K : Nat → Nat) (hK : ∀ j, K j < 256) (p : Option Addr) (l : List UInt8) (n cap : Nat) (w : World) (hn : l.length = n) (hb : Bs w p l) (hl : l.length ≤ 70368744176640) :
    Calls Tryd.prog 41 #[.agg (row .u8 64 K), .slice p n cap] w (Made (bytesOf 64 K ++ l) w) := by
  obtain ⟨i0, hi0, hz0, hz1, hzb⟩ := info_parts u8_parts
  have hmk := run_make (P := Tryd.prog) (w.alloc (.cells (row .u8 64 K) 46)) 22 5 i0 (.int .u8 0) Tryd.underlying22 hi0 hz0 .i64 .i64 (64 + (l.length : Int)) (64 + (l.length : Int)) (by omega) (by omega) (by rw [hzb]; omega) (by omega)
  rw [hz1, show (64 + (l.length : Int)).toNat * 1 = 64 + l.length by omega, show (64 + (l.length : Int)).toNat = 64 + l.length by omega] at hmk
  have HU := Lib.hid info_u8
  subst hn
  obtain ⟨KL, hKL⟩ : ∃ KL, KL = bytesOf 64 K := ⟨_, rfl⟩
  have HKL := Lib.hid hKL
  have HKN := Lib.hid (show KL.length = 64 by rw [hKL]; exact bytesOf_length _ _)
  rw [← hKL]
  clear hKL
  obtain ⟨Z, hZ⟩ : ∃ Z, Z = (zeros (64 + l.length)).take 0 ++ KL ++ (zeros (64 + l.length)).drop (0 + KL.length) := ⟨_, rfl⟩
  have HZ := Lib.hid hZ
  have HZE := Lib.hid (show Z = KL ++ zeros l.length by
    rw [hZ, List.take_zero, List.nil_append, Nat.zero_add, HKN.out]
    congr 1
    unfold zeros
    rw [List.drop_replicate]
    congr 1
    omega)
  clear hZ
  obtain ⟨R, hR⟩ : ∃ R, R = KL ++ l := ⟨_, rfl⟩
  rw [← hR]
  have HR := Lib.hid hR
  have HRL := Lib.hid (show R.length = 64 + l.length by rw [hR, List.length_append, HKN.out])
  clear hR
  by_cases h0 : l.length = 0
  · obtain rfl : l = [] := List.eq_nil_of_length_eq_zero h0
    rw [HR.out, HKL.out, List.append_nil]
    exact behind_nil K hK p cap w
  · have h1 : ¬ 64 + l.length = 64 := by omega
    go_enter Tryd.func41, Tryd.ntmps41
    go_wp2_with (with_reducible refine wpList_copy_bytes rfl (.tmp 10) (.tmp 11) 22 rfl 5 Tryd.underlying22 HU.out (w.heap.size + 1) 0 (64 + l.length) (64 + l.length) (some ⟨w.heap.size, 0, none⟩) 64 (zeros (64 + l.length)) KL 5 rfl ?c0 ?c1 ?c2 ?c3 ?c4 (w.heap.size + 1) _ (Below.refl _ _) (Nat.le_refl _) Z HZ.out ?_)
    case c0 => rw [HKN.out]; rfl
    case c1 => exact made_byt1 _ _ _
    case c2 => rw [HKN.out]; omega
    case c3 => rw [HKL.out]; exact arr_bs (Arr.new.al _) hK
    case c4 => rw [zeros_length, HKN.out]; omega
    intro w1 hB1 hb1
    have hb1' := (below2 w (.cells (row .u8 64 K) 46) (.cells (madeCells #[.int .u8 0] (64 + l.length)) 5)).trans (hb1.mono (by omega))
    have hbs := hb.keep hb1'
    clear hb1
    go_wp2_with (with_reducible refine wpList_copy_bytes rfl (.tmp 14) (.tmp 15) 22 rfl 5 Tryd.underlying22 HU.out (w.heap.size + 1) 64 _ _ p cap Z l 5 rfl rfl hB1 ?d2 hbs ?d4 w.heap.size w hb1' (by omega) R ?d5 ?_)
    case d2 => omega
    case d4 => rw [HZE.out, List.length_append, HKN.out, zeros_length]; omega
    case d5 => rw [HR.out, HZE.out, List.take_append_of_le_length (by rw [HKN.out]; omega), List.take_of_length_le (by rw [HKN.out]; omega), List.drop_of_length_le (by rw [List.length_append, HKN.out, zeros_length]; omega), List.append_nil]
    intro w2 hB2 hb2
    clear hB1 hb1' hbs
    go_wp2_with fail
    go_ret
    exact ⟨w.heap.size + 1, by rw [HRL.out]; rfl, hB2, hb2⟩

theorem Byt.at_ {w : World} {g : Nat} {t : TypeId} {l : List UInt8} (h : Byt w g t l) (j : Nat) (hj : j < l.length) : w.cell? ⟨g, j, none⟩ = some (.int .u8 (l[j].toNat : Int)) := by
  rw [cell_of_row w g j _ t _ h]
  simp [bv, hj]
theorem Byt.frz {w : World} {g : Nat} {t : TypeId} {l : List UInt8} (h : Byt w g t l) (j : Nat) : w.frozen? ⟨g, j, none⟩ = false := frozen_of_row w g j _ t h

set_option maxHeartbeats 2000000 in
theorem numbered_any (p : Option Addr) (l : List UInt8) (n cap : Nat) (w : World) (hn : l.length = n) (hb : Bs w p l) (hl : l.length ≤ 70368744176640) :
    Calls Tryd.prog 30 #[.slice p n cap] w (Made (firstMsg l) w) := by
  obtain ⟨i0, hi0, hz0, hz1, hzb⟩ := info_parts u8_parts
  have hmk := run_make (P := Tryd.prog) w 22 5 i0 (.int .u8 0) Tryd.underlying22 hi0 hz0 .i64 .i64 ((l.length : Int) + 4) ((l.length : Int) + 4) (by omega) (by omega) (by rw [hzb]; omega) (by omega)
  rw [hz1, show ((l.length : Int) + 4).toNat * 1 = l.length + 4 by omega, show ((l.length : Int) + 4).toNat = l.length + 4 by omega] at hmk
  have HU := Lib.hid info_u8
  subst hn
  obtain ⟨R, hR⟩ : ∃ R, R = firstMsg l := ⟨_, rfl⟩
  rw [← hR]
  have HRL := Lib.hid (show R.length = l.length + 4 by rw [hR]; simp [firstMsg])
  obtain ⟨Z, hZ⟩ : ∃ Z, Z = (zeros (l.length + 4)).take 0 ++ l ++ (zeros (l.length + 4)).drop (0 + l.length) := ⟨_, rfl⟩
  have HZ := Lib.hid hZ
  have hZE : Z = l ++ zeros 4 := by
    rw [hZ, List.take_zero, List.nil_append, Nat.zero_add]
    congr 1
    unfold zeros
    rw [List.drop_replicate]
    congr 1
    omega
  have HZL := Lib.hid (show Z.length = l.length + 4 by rw [hZE]; simp [zeros])
  have HZR := Lib.hid (show Z.set (l.length + 3) 1 = R by
    rw [hZE, hR]
    unfold firstMsg
    rw [List.set_append_right _ _ (by omega), show l.length + 3 - l.length = 3 by omega]
    rfl)
  have HZ3 := Lib.hid (show ∀ h : l.length + 3 < Z.length, Z[l.length + 3] = 0 by
    subst hZE
    intro h
    rw [List.getElem_append_right (by omega)]
    simp [zeros])
  clear hZ hR hZE
  go_enter Tryd.func30, Tryd.ntmps30
  go_wp2_with (with_reducible refine wpList_copy_bytes rfl (.tmp 8) (.tmp 9) 22 rfl 5 Tryd.underlying22 HU.out w.heap.size 0 (l.length + 4) (l.length + 4) p cap (zeros (l.length + 4)) l 5 rfl rfl ?c1 ?c2 ?c3 ?c4 w.heap.size _ (Below.refl _ _) (Nat.le_refl _) Z HZ.out ?_)
  case c1 => exact made_byt0 _ _
  case c2 => omega
  case c3 => exact hb.keep (below1 _ _)
  case c4 => rw [zeros_length]; omega
  intro w1 hB1 hb1
  have hb1' := (below1 w (.cells (madeCells #[.int .u8 0] (l.length + 4)) 5)).trans hb1
  have c0 := hB1.at_ (l.length + 3) (by rw [HZL.out]; omega)
  rw [HZ3.out (by rw [HZL.out]; omega)] at c0
  have z0 := hB1.frz (l.length + 3)
  have HB1 := Lib.hid hB1
  clear hb1 hB1
  go_wp2_with fail
  go_ret
  refine ⟨w.heap.size, by rw [HRL.out]; rfl, ?_, hb1'.setCell (by simp) _⟩
  have := HB1.out.set (l.length + 3) 1
  rwa [HZR.out] at this

end Go.Proofs.YtjcohlpjlifolaaDoor.MacT
