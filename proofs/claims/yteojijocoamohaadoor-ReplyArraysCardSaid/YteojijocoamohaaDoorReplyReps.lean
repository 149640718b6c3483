/-
  The replies that the statements of layer 5 make of texts and a number.
-/
import Derived.Test.YteojijocoamohaaDoorReplyFew
namespace Go.Proofs.YteojijocoamohaaDoor.ReplyL
open Go.RowKit Kit BytesIn ReplyMath ReplyT ReplyM NumMath NumL
set_option linter.unusedVariables false
set_option maxRecDepth 100000

theorem mod_is (k j : Nat) (h : k % 4 = j) : (k : Int).tmod 4 = (j : Int) := by
  rw [Int.tmod_eq_emod_of_nonneg (by omega)]
  omega

set_option maxHeartbeats 4000000 in
theorem replies_any (q : Option Addr) (L : List (List UInt8)) (m c : Nat) (n : Int) (w : World) (hL : L.length = m) (h : Ss w q L) (hc : m ≤ c) (hcm : c ≤ 9223372036854775807) (hnil : q = none → c = 0) (hm : m ≤ 20) (hz : ∀ s ∈ L, s.length ≤ 100)
    (h0 : -9223372036854775808 ≤ n) (h1 : n ≤ 9223372036854775807) (hg : Gt w) :
    Calls Tryd.prog 27 #[.slice q m c, .int .i64 n] w fun e w' => ∃ v, e = .returned v ∧ OwnR w.heap.size w' v (reps L n m) ∧ Below w.heap.size w w' := by
  have HLn := Lib.hid hL
  have HS := Lib.hid h
  have HZ := Lib.hid hz
  have HG := Lib.hid hg
  have HNil := Lib.hid hnil
  have C1 := Lib.hid (noArray_any w hg)
  clear h hL hz hg hnil
  go_enter Tryd.func27, Tryd.ntmps27
  go_wp2_with fail
  refine C1.out.mono ?_
  rintro e w1 ⟨x, rfl, hx, hb1⟩
  obtain ⟨px, cx, rfl⟩ := hx.form
  rw [show noArray.length = 5 from rfl] at hx ⊢
  have HX := Lib.hid hx
  have HB1 := Lib.hid hb1
  clear hx hb1
  have C2 := Lib.hid (null_any w1 (HG.out.keep HB1.out))
  go_wp2_with fail
  refine C2.out.mono ?_
  rintro e w2 ⟨y, rfl, hy, hb2⟩
  obtain ⟨py, cy, rfl⟩ := hy.form
  rw [show null.length = 5 from rfl] at hy ⊢
  have HB2 := Lib.hid (HB1.out.trans (hb2.mono HB1.out.size))
  have HO0 := Lib.hid (show OwnR w.heap.size (w2.alloc (.cells #[.slice px 5 cx, .slice py 5 cy] 23)) (.slice (some ⟨w2.heap.size, 0, none⟩) 2 2) (reps L n 0) from by
    have kx := HX.out.ok.keep hb2
    have ax : ∀ p n c, Value.slice px 5 cx = .slice (some p) n c → 0 < n → (Value.slice (some ⟨w2.heap.size, 0, none⟩) 2 2).ownBlock ≠ some p.block := by
      intro p n c he hn e
      obtain ⟨q, c', hq, hB, -⟩ := kx
      rw [he] at hq
      injection hq with e1 e2 e3
      obtain ⟨b, off, hb', hlt, -⟩ := hB (by omega)
      rw [hb'] at e1
      injection e1 with e1
      subst e1
      injection e with e
      have e : w2.heap.size = b := e
      omega
    have ay : ∀ p n c, Value.slice py 5 cy = .slice (some p) n c → 0 < n → (Value.slice (some ⟨w2.heap.size, 0, none⟩) 2 2).ownBlock ≠ some p.block := by
      intro p n c he hn e
      obtain ⟨q, c', hq, hB, -⟩ := hy.ok
      rw [he] at hq
      injection hq with e1 e2 e3
      obtain ⟨b, off, hb', hlt, -⟩ := hB (by omega)
      rw [hb'] at e1
      injection e1 with e1
      subst e1
      injection e with e
      have e : w2.heap.size = b := e
      omega
    exact ⟨[.slice px 5 cx, .slice py 5 cy], World.ownsRow_lit w2 #[.slice px 5 cx, .slice py 5 cy] 2 HB2.out.size (by simp [maxLen]) rfl, two_rows (kx.keep (below1 w2 _)) ax (hy.ok.keep (below1 w2 _)) ay⟩)
  clear hy hb2 C1 C2 HX
  go_wp2_with fail
  go_loopw [5, 6] (fun v i wr => ∃ k : Nat, k ≤ m ∧ i = .int .i64 k ∧ Below w.heap.size w wr ∧ Hid (OwnR w.heap.size wr v (reps L n k))) (fun _ i _ => m - (intOf i).toNat)
  case atStart => exact ⟨0, Nat.zero_le _, rfl, HB2.out.alloc HB2.out.size _, HO0⟩
  case round =>
    obtain ⟨k, hk, rfl, hb, HO⟩ := hrel
    by_cases hlt : k < m
    · have d1 : decide ((k : Int) < (m : Int)) = true := decide_eq_true (by omega)
      have hkl : k < L.length := by rw [HLn.out]; exact hlt
      obtain ⟨S, hS⟩ : ∃ S : ByteArray, S = ⟨L[k].toArray⟩ := ⟨_, rfl⟩
      have hSz : S.size ≤ 100 := by rw [hS, size_bytes]; exact HZ.out L[k] (List.getElem_mem hkl)
      have hSd : L.getD k [] = S.data.toList := by rw [hS, List.getD_eq_getElem?_getD, List.getElem?_eq_getElem hkl]; rfl
      have HSN := Lib.hid (show reps L n (k + 1) = reps L n k ++ stepR L n k from rfl)
      have HKl := Lib.hid (show (reps L n k).length + 2 ≤ 1048576 by have := reps_len L n k; omega)
      have HGr := Lib.hid (HG.out.keep hb)
      have HBr := Lib.hid hb
      have HLt := Lib.hid HO.out.lt
      rcases (show k % 4 = 0 ∨ k % 4 = 1 ∨ k % 4 = 2 ∨ k % 4 = 3 by omega) with hj | hj | hj | hj
      · have m1 : (k : Int).tmod 4 = 0 := mod_is k 0 hj
        have HST := Lib.hid (show stepR L n k = [bulk S.data.toList] by unfold stepR; rw [if_pos hj, hSd])
        obtain ⟨b, off, rfl, hbl, hcell⟩ := (HS.out.keep hb) (by omega)
        have hu := hcell k hkl
        rw [← hS] at hu
        have C := Lib.hid (bulk_any S wr (by omega) HGr.out)
        clear hS hSd hcell hj hb
        obtain ⟨Y, hY⟩ : ∃ Y, Y = reps L n k := ⟨_, rfl⟩
        rw [← hY] at HSN HO HKl
        obtain ⟨B, hB⟩ : ∃ B, B = bulk S.data.toList := ⟨_, rfl⟩
        rw [← hB] at HST C
        clear hY hB
        go_wp2_with fail
        refine C.out.mono ?_
        rintro e w3 ⟨x, rfl, hx, hb3⟩
        obtain ⟨px, cx, rfl⟩ := hx.form
        obtain ⟨nx, hnx⟩ : ∃ nx, nx = B.length := ⟨_, rfl⟩
        rw [← hnx] at hx ⊢
        clear hnx
        have hbw := Lib.hid (HBr.out.trans (hb3.mono HBr.out.size))
        have HO1 := Lib.hid ((HO.out.keep hb3).keep (below1 w3 (.cells [.slice px nx cx].toArray 23)))
        have HX1 := Lib.hid (hx.ok.keep (below1 w3 (.cells [.slice px nx cx].toArray 23)))
        have HAp := Lib.hid (hx.apart (v := u5) (fun g hg => (HLt.out g hg).2))
        clear hx hb3
        go_wp2_with (at_builtin; refine wpList_append_r (w0 := w) rfl (.tmp 20) (.tmp 26) rfl u5 Y rfl HO1.out (hbw.out.alloc hbw.out.size _) w3.heap.size 1 1 [.slice px nx cx] [B] rfl rfl rfl (laid_new w3 [.slice px nx cx]) (one_row HX1.out HAp.out) (one_cells HX1.out) (by have := HKl.out; omega) _ rfl ?_; intro v' w4 hown1 hb4)
        go_roundw
        case rel => exact ⟨k + 1, by omega, by go_num, hb4, by rw [HSN.out, HST.out]; exact Lib.hid hown1⟩
        case measure => simp [intOf]; omega
      · have m1 : (k : Int).tmod 4 = 1 := mod_is k 1 hj
        have HST := Lib.hid (show stepR L n k = [simple S.data.toList, int n] by unfold stepR; rw [if_neg (by omega), if_pos hj, hSd])
        obtain ⟨b, off, rfl, hbl, hcell⟩ := (HS.out.keep hb) (by omega)
        have hu := hcell k hkl
        rw [← hS] at hu
        have C := Lib.hid (simple_any S wr (by omega) HGr.out)
        clear hS hSd hcell hj hb
        obtain ⟨Y, hY⟩ : ∃ Y, Y = reps L n k := ⟨_, rfl⟩
        rw [← hY] at HSN HO HKl
        obtain ⟨B, hB⟩ : ∃ B, B = simple S.data.toList := ⟨_, rfl⟩
        rw [← hB] at HST C
        obtain ⟨I, hI⟩ : ∃ I, I = int n := ⟨_, rfl⟩
        clear hY hB
        go_wp2_with fail
        refine C.out.mono ?_
        rintro e w3 ⟨x, rfl, hx, hb3⟩
        obtain ⟨px, cx, rfl⟩ := hx.form
        obtain ⟨nx, hnx⟩ : ∃ nx, nx = B.length := ⟨_, rfl⟩
        rw [← hnx] at hx ⊢
        clear hnx
        have HX0 := Lib.hid hx
        have HB3 := Lib.hid hb3
        have C' := Lib.hid (int_any n w3 h0 h1 (HGr.out.keep hb3))
        rw [← hI] at HST C'
        clear hx hb3 hI
        go_wp2_with fail
        refine C'.out.mono ?_
        rintro e w5 ⟨y, rfl, hy, hb5⟩
        obtain ⟨py, cy, rfl⟩ := hy.form
        obtain ⟨ny, hny⟩ : ∃ ny, ny = I.length := ⟨_, rfl⟩
        rw [← hny] at hy ⊢
        clear hny
        have hbw := Lib.hid (HBr.out.trans ((HB3.out.trans (hb5.mono HB3.out.size)).mono HBr.out.size))
        have HO1 := Lib.hid (((HO.out.keep HB3.out).keep hb5).keep (below1 w5 (.cells [.slice px nx cx, .slice py ny cy].toArray 23)))
        have HX1 := Lib.hid ((HX0.out.ok.keep hb5).keep (below1 w5 (.cells [.slice px nx cx, .slice py ny cy].toArray 23)))
        have HY1 := Lib.hid (hy.ok.keep (below1 w5 (.cells [.slice px nx cx, .slice py ny cy].toArray 23)))
        have HAp := Lib.hid (HX0.out.apart (v := u5) (fun g hg => (HLt.out g hg).2))
        have HAq := Lib.hid (hy.apart (v := u5) (fun g hg => Nat.lt_of_lt_of_le (HLt.out g hg).2 HB3.out.size))
        clear hy hb5
        go_wp2_with (at_builtin; refine wpList_append_r (w0 := w) rfl (.tmp 30) (.tmp 38) rfl u5 Y rfl HO1.out (hbw.out.alloc hbw.out.size _) w5.heap.size 2 2 [.slice px nx cx, .slice py ny cy] [B, I] rfl rfl rfl (laid_new w5 [.slice px nx cx, .slice py ny cy]) (two_rows HX1.out HAp.out HY1.out HAq.out) (two_cells HX1.out HY1.out) HKl.out _ rfl ?_; intro v' w4 hown1 hb4)
        go_roundw
        case rel => exact ⟨k + 1, by omega, by go_num, hb4, by rw [HSN.out, HST.out]; exact Lib.hid hown1⟩
        case measure => simp [intOf]; omega
      · have m1 : (k : Int).tmod 4 = 2 := mod_is k 2 hj
        have HST := Lib.hid (show stepR L n k = [err S.data.toList] by unfold stepR; rw [if_neg (by omega), if_neg (by omega), if_pos hj, hSd])
        obtain ⟨b, off, rfl, hbl, hcell⟩ := (HS.out.keep hb) (by omega)
        have hu := hcell k hkl
        rw [← hS] at hu
        have C := Lib.hid (err_any S wr (by omega) HGr.out)
        clear hS hSd hcell hj hb
        obtain ⟨Y, hY⟩ : ∃ Y, Y = reps L n k := ⟨_, rfl⟩
        rw [← hY] at HSN HO HKl
        obtain ⟨B, hB⟩ : ∃ B, B = err S.data.toList := ⟨_, rfl⟩
        rw [← hB] at HST C
        clear hY hB
        go_wp2_with fail
        refine C.out.mono ?_
        rintro e w3 ⟨x, rfl, hx, hb3⟩
        obtain ⟨px, cx, rfl⟩ := hx.form
        obtain ⟨nx, hnx⟩ : ∃ nx, nx = B.length := ⟨_, rfl⟩
        rw [← hnx] at hx ⊢
        clear hnx
        have hbw := Lib.hid (HBr.out.trans (hb3.mono HBr.out.size))
        have HO1 := Lib.hid ((HO.out.keep hb3).keep (below1 w3 (.cells [.slice px nx cx].toArray 23)))
        have HX1 := Lib.hid (hx.ok.keep (below1 w3 (.cells [.slice px nx cx].toArray 23)))
        have HAp := Lib.hid (hx.apart (v := u5) (fun g hg => (HLt.out g hg).2))
        clear hx hb3
        go_wp2_with (at_builtin; refine wpList_append_r (w0 := w) rfl (.tmp 42) (.tmp 48) rfl u5 Y rfl HO1.out (hbw.out.alloc hbw.out.size _) w3.heap.size 1 1 [.slice px nx cx] [B] rfl rfl rfl (laid_new w3 [.slice px nx cx]) (one_row HX1.out HAp.out) (one_cells HX1.out) (by have := HKl.out; omega) _ rfl ?_; intro v' w4 hown1 hb4)
        go_roundw
        case rel => exact ⟨k + 1, by omega, by go_num, hb4, by rw [HSN.out, HST.out]; exact Lib.hid hown1⟩
        case measure => simp [intOf]; omega
      · have m1 : (k : Int).tmod 4 = 3 := mod_is k 3 hj
        have HST := Lib.hid (show stepR L n k = [texts (L.take k)] by unfold stepR; rw [if_neg (by omega), if_neg (by omega), if_neg (by omega)])
        have q1 := fun W => sl_hs q m c k (by omega) W
        have C := Lib.hid (texts_any (ReplyT.partAt q c 0) (L.take k) k c wr (by rw [List.length_take, HLn.out]; omega) ((partAt_ss HS.out (by rw [HLn.out]; exact hc) k).keep hb) (by omega) hcm (fun h => by have := ReplyT.partAt_none HNil.out h; omega) (by omega) (fun s hs => by have := HZ.out s (List.mem_of_mem_take hs); omega) HGr.out)
        clear hS hSd hj hb
        obtain ⟨Y, hY⟩ : ∃ Y, Y = reps L n k := ⟨_, rfl⟩
        rw [← hY] at HSN HO HKl
        obtain ⟨B, hB⟩ : ∃ B, B = texts (L.take k) := ⟨_, rfl⟩
        rw [← hB] at HST C
        obtain ⟨q2, hq2⟩ : ∃ q2, q2 = ReplyT.partAt q c 0 := ⟨_, rfl⟩
        rw [← hq2] at C q1
        clear hY hB hq2
        go_wp2_with fail
        refine C.out.mono ?_
        rintro e w3 ⟨x, rfl, hx, hb3⟩
        obtain ⟨px, cx, rfl⟩ := hx.form
        obtain ⟨nx, hnx⟩ : ∃ nx, nx = B.length := ⟨_, rfl⟩
        rw [← hnx] at hx ⊢
        clear hnx
        have hbw := Lib.hid (HBr.out.trans (hb3.mono HBr.out.size))
        have HO1 := Lib.hid ((HO.out.keep hb3).keep (below1 w3 (.cells [.slice px nx cx].toArray 23)))
        have HX1 := Lib.hid (hx.ok.keep (below1 w3 (.cells [.slice px nx cx].toArray 23)))
        have HAp := Lib.hid (hx.apart (v := u5) (fun g hg => (HLt.out g hg).2))
        clear hx hb3
        go_wp2_with (at_builtin; refine wpList_append_r (w0 := w) rfl (.tmp 52) (.tmp 57) rfl u5 Y rfl HO1.out (hbw.out.alloc hbw.out.size _) w3.heap.size 1 1 [.slice px nx cx] [B] rfl rfl rfl (laid_new w3 [.slice px nx cx]) (one_row HX1.out HAp.out) (one_cells HX1.out) (by have := HKl.out; omega) _ rfl ?_; intro v' w4 hown1 hb4)
        go_roundw
        case rel => exact ⟨k + 1, by omega, by go_num, hb4, by rw [HSN.out, HST.out]; exact Lib.hid hown1⟩
        case measure => simp [intOf]; omega
    · have d1 : decide ((k : Int) < (m : Int)) = false := decide_eq_false (by omega)
      have HF := Lib.hid (show OwnR w.heap.size wr u5 (reps L n m) by
        have h1 := HO.out
        rw [show k = m by omega] at h1
        exact h1)
      clear HO
      go_wp2_with fail
      go_ret
      exact ⟨_, rfl, HF.out, hb⟩

end Go.Proofs.YteojijocoamohaaDoor.ReplyL
