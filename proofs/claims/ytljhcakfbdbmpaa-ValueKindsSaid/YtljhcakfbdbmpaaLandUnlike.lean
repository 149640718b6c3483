/-
  The landed code of layer 9: whether no two marks have the same name, by putting the names in order.
-/
import Derived.Test.YtljhcakfbdbmpaaLandRise
import Derived.Test.YtljhcakfbdbmpaaCopyG
import Derived.Lib.OwnBridge
namespace Go.Proofs.Ytljhcakfbdbmpaa.ValM
open Go.Sort Go.Lib Go.RowKit Kit StrT RowG BOrd ValT RefV
open Go.Op (bytesLess)
set_option linter.unusedVariables false
set_option maxRecDepth 100000

/-- A row of texts that is filled up to a place. -/
def Fill (w : World) (g n k : Nat) (N : List (List UInt8)) : Prop := ∃ cur : Array Value, w.heap[g]? = some (.cells cur 9 (0, 0)) ∧ cur.size = n ∧ ∀ j (h : j < N.length), j < k → cur[j]? = some (.string ⟨N[j].toArray⟩)
theorem Fill.of {w : World} {g n : Nat} (N : List (List UInt8)) (h : Made strE w g n) : Fill w g n 0 N := by
  obtain ⟨cur, hh, -, hs⟩ := h
  exact ⟨cur, hh, by rw [hs]; show n * 1 = n; omega, fun j h h0 => absurd h0 (by omega)⟩
theorem Fill.lt {w : World} {g n k : Nat} {N : List (List UInt8)} (h : Fill w g n k N) : g < w.heap.size := by
  obtain ⟨cur, hh, -⟩ := h
  exact (Array.getElem?_eq_some_iff.1 hh).1
theorem Fill.keep {w w' : World} {g n k : Nat} {N : List (List UInt8)} (h : Fill w g n k N) (hb : RowKit.Below w.heap.size w w') : Fill w' g n k N := by
  have hlt := h.lt
  obtain ⟨cur, hh, h1⟩ := h
  exact ⟨cur, by rw [hb.block g hlt]; exact hh, h1⟩
theorem Fill.room {w : World} {g n k : Nat} {N : List (List UInt8)} (h : Fill w g n k N) (hk : k < n) : (∃ v, w.cell? ⟨g, k, none⟩ = some v) ∧ w.frozen? ⟨g, k, none⟩ = false := by
  obtain ⟨cur, hh, hs, -⟩ := h
  refine ⟨⟨cur[k]'(by omega), ?_⟩, frozen_of_row _ _ _ _ 9 hh⟩
  rw [cell_of_row _ _ _ _ 9 _ hh]
  simp [hs, hk]
theorem Fill.put {w : World} {g n k : Nat} {N : List (List UInt8)} (h : Fill w g n k N) (hN : N.length = n) (hk : k < n) (T : ByteArray) (hT : T = ⟨(N[k]'(by omega)).toArray⟩) : Fill (w.setCell ⟨g, k, none⟩ (.string T)) g n (k + 1) N := by
  obtain ⟨cur, hh, hs, hc⟩ := h
  refine ⟨_, heap_setCell_same _ _ _ _ _ _ hh, by simpa using hs, fun j hj hjk => ?_⟩
  rw [Array.getElem?_setIfInBounds]
  by_cases e : k = j
  · subst e
    rw [if_pos rfl, if_pos (by omega), hT]
  · rw [if_neg e]
    exact hc j hj (by omega)
theorem Fill.holds {w : World} {g n : Nat} {N : List (List UInt8)} (h : Fill w g n n N) (hN : N.length = n) : Holds encStr w g 0 N.toArray := by
  obtain ⟨cur, hh, hs, hc⟩ := h
  intro j hj
  have hj' : j < N.length := by simpa using hj
  refine ⟨?_, frozen_of_row _ _ _ _ 9 hh⟩
  rw [cell_of_row _ _ _ _ 9 _ hh, Nat.zero_add, hc j hj' (by omega)]
  simp [getElem!_pos, hj']
theorem below_grow1 (w : World) (os : Array Obj) : RowKit.Below w.heap.size w (grow w os) := ⟨rfl, rfl, rfl, by simp [grow], fun k hk => by simp [grow, Array.getElem?_append, hk]⟩
/-- The row behind the sort. -/
theorem sorted_ss {w w' : World} {g n m : Nat} {N : List (List UInt8)} {os : Array Obj} (h : Fill w g n n N) (hN : N.length = n) (e : w' = grow (putRow encStr (Sort.ahead w m) g 0 (sortedT N).toArray) os) : Ss w' (some ⟨g, 0, none⟩) (sortedT N) := by
  subst e
  have hg := h.lt
  have hH : Holds encStr (putRow encStr (Sort.ahead w m) g 0 (sortedT N).toArray) g 0 (sortedT N).toArray := holds_putRow encStr (Sort.ahead w m) g 0 N.toArray (sortedT N).toArray (h.holds hN) (by simp [sorted_len])
  have hlt : g < (putRow encStr (Sort.ahead w m) g 0 (sortedT N).toArray).heap.size := by simpa [putRow, mapBlock, Sort.ahead] using hg
  have hb := below_grow1 (putRow encStr (Sort.ahead w m) g 0 (sortedT N).toArray) os
  intro h0
  refine ⟨g, 0, rfl, Nat.lt_of_lt_of_le hlt hb.size, fun j hj => ?_⟩
  rw [hb.cell (p := ⟨g, 0 + j, none⟩) hlt, (hH j (by simpa using hj)).1]
  simp [getElem!_pos, hj]
theorem sorted_below {w0 w w' : World} {g m : Nat} {N : List (List UInt8)} {os : Array Obj} (hb : RowKit.Below w0.heap.size w0 w) (hg : w0.heap.size ≤ g) (e : w' = grow (putRow encStr (Sort.ahead w m) g 0 (sortedT N).toArray) os) : RowKit.Below w0.heap.size w0 w' := by
  subst e
  have h1 := below_putRow (enc := encStr) (q := m) (d := (sortedT N).toArray) hb hg
  exact h1.trans ((below_grow1 _ os).mono h1.size)
theorem mnames_at (L : List Mk) (k : Nat) (h : k < (mnames L).length) : (mnames L)[k] = (L[k]'(by simpa [mnames] using h)).name := by simp [mnames]

set_option maxHeartbeats 4000000 in
theorem unlike_any (q : Option Addr) (L : List Mk) (n c : Nat) (w : World) (hn : L.length = n) (h : Rs mkE w q L) (hz : n ≤ 1048576) :
    Calls Try.prog 26 #[.slice q n c] w fun e w' => e = .returned (.bool (chainB cmpS (sortedT (mnames L)))) ∧ RowKit.Below w.heap.size w w' := by
  have HS := Lib.hid h
  have HN := Lib.hid hn
  have HE := Lib.hid (mnames_at L)
  obtain ⟨N, hNe⟩ : ∃ N, N = mnames L := ⟨_, rfl⟩
  have HM := Lib.hid (show N.length = n by rw [hNe]; unfold mnames; rw [List.length_map]; exact hn)
  rw [← hNe]
  have HNe := Lib.hid hNe
  clear h hn hNe
  go_enter Try.func26, Try.ntmps26
  go_wp2_with (at_make; with_reducible refine wpList_make_r strE rfl _ _ rfl n rfl rfl hz ?_; intro w1 hm1 hb1; have HF := Lib.hid (Fill.of N hm1); have HB1 := Lib.hid hb1; clear hm1 hb1)
  go_loopw [11] (fun i wr => ∃ k : Nat, k ≤ n ∧ i = .int .i64 (k : Int) ∧ Hid (Fill wr w.heap.size n k N) ∧ Hid (RowKit.Below w.heap.size w wr)) (fun i _ => n - (intOf i).toNat)
  case atStart => exact ⟨0, Nat.zero_le _, rfl, HF, HB1⟩
  case round =>
    clear HF HB1
    obtain ⟨k, hk, rfl, HF, HB⟩ := hrel
    by_cases hlt : k < n
    · have d1 : decide ((k : Int) < (n : Int)) = true := decide_eq_true (by omega)
      have hk0 : (0 : Int) ≤ (k : Int) := by omega
      have hkn : (k : Int) < (n : Int) := by omega
      obtain ⟨b, off, rfl, hbl, u0, u1⟩ := mark_cells (HS.out.keep HB.out) k (by rw [HN.out]; exact hlt)
      have HX := Lib.hid (show N[k]'(by rw [HM.out]; exact hlt) = (L[k]'(by rw [HN.out]; exact hlt)).name by
        have h := HE.out k (by rw [← HNe.out, HM.out]; exact hlt)
        simp only [HNe.out]
        exact h)
      obtain ⟨X, hX⟩ : ∃ X, X = L[k]'(by rw [HN.out]; exact hlt) := ⟨_, rfl⟩
      rw [← hX] at u0 u1 HX
      obtain ⟨xn, x⟩ := X
      simp only at u0 u1 HX
      obtain ⟨T, hT⟩ : ∃ T : ByteArray, T = ⟨xn.toArray⟩ := ⟨_, rfl⟩
      rw [← hT] at u0
      have HFa := Lib.hid (HF.out.keep (show RowKit.Below wr.heap.size wr (wr.alloc (.cells #[.string T, .int .i64 x] 36)) from (RowKit.Below.refl _ _).alloc (Nat.le_refl _) _))
      have HFn := Lib.hid (HFa.out.put HM.out hlt T (by rw [hT, HX.out]))
      have HBa := Lib.hid ((HB.out.alloc HB.out.size (.cells #[.string T, .int .i64 x] 36)).setCell (p := ⟨w.heap.size, k, none⟩) (Nat.le_refl _) (.string T))
      obtain ⟨⟨r0, hr0⟩, hr1⟩ := HFa.out.room hlt
      have c0 : (wr.alloc (.cells #[.string T, .int .i64 x] 36)).cell? ⟨wr.heap.size, 0, none⟩ = some (.string T) := by
        rw [cell_of_row _ _ _ _ 36 _ (heap_alloc_last wr _)]
        rfl
      clear hX hT hbl HFa
      go_wp2_with fail
      go_roundw
      case rel => exact ⟨k + 1, by omega, by go_num, HFn, HBa⟩
      case measure => simp [intOf]; omega
    · obtain rfl : k = n := by omega
      have d1 : decide ((k : Int) < (k : Int)) = false := decide_eq_false (by omega)
      have CS := Lib.hid (show Calls Try.prog 43 #[.slice (some ⟨w.heap.size, 0, none⟩) k k] wr fun e w' => e = .returned (.tuple #[]) ∧ Hid (Ss w' (some ⟨w.heap.size, 0, none⟩) (sortedT N)) ∧ Hid (RowKit.Below w.heap.size w w') from by
        have h := Try.slices_Sort_string w.heap.size 0 k N wr (HF.out.holds HM.out) HF.out.lt (by have := HM.out; omega)
        rw [HM.out] at h
        refine h.mono ?_
        rintro e w' ⟨rfl, m, os, he⟩
        exact ⟨rfl, Lib.hid (sorted_ss HF.out HM.out he), Lib.hid (sorted_below HB.out (Nat.le_refl _) he)⟩)
      go_wp2_with (first
        | (go_at_call 43; with_reducible refine CS.out.mono ?_; rintro e w3 ⟨rfl, HSs, HB3⟩)
        | (go_at_call 22; with_reducible refine (rising_s _ (sortedT N) k k w3 (by rw [sorted_len]; exact HM.out) HSs.out hz).mono ?_; rintro e w4 ⟨rfl, hb4⟩; have HB4 := Lib.hid (HB3.out.trans (hb4.mono HB3.out.size)); clear hb4))
      go_ret
      exact ⟨rfl, HB4.out⟩

end Go.Proofs.Ytljhcakfbdbmpaa.ValM
