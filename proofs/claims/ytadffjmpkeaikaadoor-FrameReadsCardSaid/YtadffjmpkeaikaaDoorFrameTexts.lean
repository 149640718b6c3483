/-
  The landed code of layer 6: frame.texts, a row of rows as texts.
-/
import Derived.Test.YtadffjmpkeaikaaDoorFrameLine
namespace Go.Proofs.YtadffjmpkeaikaaDoor.FrameM
open Go.RowKit Kit BytesIn ReplyMath ReplyT NumMath FrameMath FrameT
set_option linter.unusedVariables false
set_option maxRecDepth 100000

set_option maxHeartbeats 2000000 in
theorem texts_any (q : Option Addr) (L : List (List UInt8)) (n c : Nat) (w : World) (hL : L.length = n) (h : Rs w q L) (hn : n ≤ 1048576) :
    Calls Tryd.prog 33 #[.slice q n c] w fun e w' => ∃ v, e = .returned v ∧ AnsS w.heap.size w' v L ∧ Below w.heap.size w w' := by
  obtain ⟨i0, hi0, hz0, hz1, hzb⟩ := info_parts str_parts
  have hmk := run_make (P := Tryd.prog) w 23 9 i0 (.string ByteArray.empty) Tryd.underlying23 hi0 hz0 .i64 .i64 0 (n : Int) (by omega) (by omega) (by rw [hzb]; omega) (by omega)
  rw [hz1, show (n : Int).toNat * 1 = n by omega, show (n : Int).toNat = n by omega] at hmk
  have HO := Lib.hid (show OwnS w.heap.size (w.alloc (.cells (madeCells (Value.string ByteArray.empty).cells n) 9)) (.slice (some ⟨w.heap.size, 0, none⟩) 0 n) [] from
    World.ownsRow_made w _ n (Nat.le_refl _) (by unfold maxLen; omega) (by rw [size_madeCells, Nat.mul_one]))
  have HB := Lib.hid (below1 w (.cells (madeCells (Value.string ByteArray.empty).cells n) 9))
  have HLn := Lib.hid hL
  have HS := Lib.hid h
  clear h hL hz0 hz1 hzb hi0
  go_enter Tryd.func33, Tryd.ntmps33
  go_wp2_with fail
  go_loopw [3, 11] (fun v i wr => ∃ k : Nat, k ≤ n ∧ i = .int .i64 k ∧ Below w.heap.size w wr ∧ Hid (OwnS w.heap.size wr v (L.take k))) (fun _ i _ => n - (intOf i).toNat)
  case atStart => exact ⟨0, Nat.zero_le _, rfl, HB.out, HO⟩
  case round =>
    obtain ⟨k, hk, rfl, hb, HR⟩ := hrel
    have hbs := hb.size
    clear HO HB hmk
    by_cases hlt : k < n
    · have hkl : k < L.length := by rw [HLn.out]; exact hlt
      obtain ⟨b, off, rfl, hbl, hc⟩ := (HS.out.keep hb) (by omega)
      obtain ⟨u, hu, pu, cu, rfl, hBu, -⟩ := hc k hkl
      obtain ⟨s, hs⟩ : ∃ s, s = L[k] := ⟨_, rfl⟩
      rw [← hs] at hu hBu
      have HN := Lib.hid (show L.take (k + 1) = L.take k ++ [s] by rw [hs]; exact List.take_succ_eq_append_getElem hkl)
      have c1 := bs_string hBu s.length cu rfl
      obtain ⟨S, hS⟩ : ∃ S : ByteArray, S = ⟨s.toArray⟩ := ⟨_, rfl⟩
      have HT := Lib.hid (show S.data.toList = s by rw [hS])
      rw [← hS] at c1
      obtain ⟨m, hm⟩ : ∃ m, m = s.length := ⟨_, rfl⟩
      rw [← hm] at c1 hu
      have HO1 := Lib.hid (HR.out.keep (below1 wr (.cells #[.string S] 9)))
      have HC := Lib.hid (show (wr.alloc (.cells #[.string S] 9)).cell? ⟨wr.heap.size, 0, none⟩ = some (.string S) by simp [World.cell?_alloc_mark])
      have HKl := Lib.hid (show (L.take k).length ≤ 1048576 by rw [List.length_take]; omega)
      obtain ⟨Y, hY⟩ : ∃ Y, Y = L.take k := ⟨_, rfl⟩
      rw [← hY] at HN HO1 HKl
      clear hY hs hS hm hBu hc
      go_wp2_with (at_builtin; refine wpList_append_s (w0 := w) rfl (.tmp 15) (.tmp 18) rfl u3 Y rfl HO1.out (hb.alloc hbs _) wr.heap.size S _ 1 rfl HT.out HC.out HKl.out ?_; intro v' w2 hown1 hb2)
      go_roundw
      case rel => exact ⟨k + 1, by omega, by go_num, hb2, by rw [HN.out]; exact Lib.hid hown1⟩
      case measure => simp [intOf]; omega
    · have HF := Lib.hid (show OwnS w.heap.size wr u3 L by
        have h1 := HR.out
        rwa [List.take_of_length_le (by rw [HLn.out]; omega)] at h1)
      clear HR
      go_wp2_with fail
      go_ret
      exact ⟨_, rfl, ownS_ans HF.out, hb⟩

end Go.Proofs.YtadffjmpkeaikaaDoor.FrameM
