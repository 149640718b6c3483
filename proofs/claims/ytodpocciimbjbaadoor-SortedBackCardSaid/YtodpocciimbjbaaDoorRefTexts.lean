/-
  The document's own Texts of layer 5 (package tipstaffref05).
-/
import Derived.Test.YtodpocciimbjbaaDoorRefArray
import Derived.Test.YtodpocciimbjbaaDoorReplyRowsR
namespace Go.Proofs.YtodpocciimbjbaaDoor.RefR
open Go.RowKit Kit BytesIn ReplyMath ReplyT NumMath
set_option linter.unusedVariables false
set_option maxRecDepth 100000

theorem bulk_len (s : List UInt8) (h : s.length ≤ 1048576) : (bulk s).length ≤ s.length + 25 := by
  have := itoa_len (s.length : Int) (by omega) (by omega)
  simp [bulk]
  omega
theorem bulks_len : ∀ (L : List (List UInt8)), (∀ s ∈ L, s.length ≤ 1048576) → (L.map bulk).flatten.length ≤ L.flatten.length + 25 * L.length
  | [], _ => by simp
  | s :: L, h => by
    have h1 := bulk_len s (h s (by simp))
    have h2 := bulks_len L (fun t ht => h t (by simp [ht]))
    simp only [List.map_cons, List.flatten_cons, List.length_append, List.length_cons]
    omega
theorem flat_le : ∀ (L : List (List UInt8)) (m : Nat), (∀ s ∈ L, s.length ≤ m) → L.flatten.length ≤ m * L.length
  | [], _, _ => by simp
  | s :: L, m, h => by
    have h1 := h s (by simp)
    have h2 := flat_le L m (fun t ht => h t (by simp [ht]))
    simp only [List.flatten_cons, List.length_append, List.length_cons, Nat.mul_succ]
    omega
theorem mem_flat : ∀ (L : List (List UInt8)) (s : List UInt8), s ∈ L → s.length ≤ L.flatten.length
  | t :: L, s, h => by
    rw [List.flatten_cons, List.length_append]
    rcases List.mem_cons.1 h with rfl | h
    · omega
    · have := mem_flat L s h
      omega
set_option maxHeartbeats 600000 in
theorem rtexts_sum (q : Option Addr) (L : List (List UInt8)) (n c : Nat) (w : World) (hL : L.length = n) (h : Ss w q L) (hn : n ≤ 4096) (hz : L.flatten.length ≤ 1048576) :
    Calls Tryd.prog 15 #[.slice q n c] w (Gives (texts L) w) := by
  have HLn := Lib.hid hL
  have HS := Lib.hid h
  have HZ := Lib.hid (fun s (hs : s ∈ L) => Nat.le_trans (mem_flat L s hs) hz)
  have HZs := Lib.hid hz
  have HO0 := Lib.hid (OwnR.new w)
  clear h hL hz
  go_enter Tryd.func15, Tryd.ntmps15
  go_wp2_with fail
  go_loopw [3, 4] (fun v i wr => ∃ k : Nat, k ≤ n ∧ i = .int .i64 k ∧ Below w.heap.size w wr ∧ Hid (OwnR w.heap.size wr v ((L.take k).map bulk))) (fun _ i _ => n - (intOf i).toNat)
  case atStart => exact ⟨0, Nat.zero_le _, rfl, below1 _ _, HO0⟩
  case round =>
    obtain ⟨k, hk, rfl, hb, HO⟩ := hrel
    by_cases hlt : k < n
    · have hkl : k < L.length := by rw [HLn.out]; exact hlt
      obtain ⟨b, off, rfl, hbl, hc⟩ := (HS.out.keep hb) (by omega)
      have hu := hc k hkl
      obtain ⟨S, hS⟩ : ∃ S : ByteArray, S = ⟨L[k].toArray⟩ := ⟨_, rfl⟩
      have HSz := Lib.hid (show S.size ≤ 1048576 by rw [hS, size_bytes]; have := HZ.out L[k] (List.getElem_mem hkl); omega)
      have C := Lib.hid (rbulk S wr HSz.out)
      have HSN := Lib.hid (show (L.take (k + 1)).map bulk = (L.take k).map bulk ++ [bulk S.data.toList] by
        rw [List.take_succ_eq_append_getElem hkl, List.map_append, hS]
        rfl)
      rw [← hS] at hu
      clear hS hc
      have HKl := Lib.hid (show ((L.take k).map bulk).length + 1 ≤ 1048576 by rw [List.length_map, List.length_take]; omega)
      obtain ⟨Y, hY⟩ : ∃ Y, Y = (L.take k).map bulk := ⟨_, rfl⟩
      rw [← hY] at HSN HO HKl
      obtain ⟨B, hB⟩ : ∃ B, B = bulk S.data.toList := ⟨_, rfl⟩
      rw [← hB] at HSN C
      clear hY hB
      go_wp2_with fail
      refine C.out.mono ?_
      rintro e w1 ⟨x, rfl, hx, hb1⟩
      obtain ⟨px, cx, rfl⟩ := hx.form
      obtain ⟨nx, hnx⟩ : ∃ nx, nx = B.length := ⟨_, rfl⟩
      rw [← hnx] at hx ⊢
      clear hnx
      have hbw := Lib.hid (hb.trans (hb1.mono hb.size))
      have HO1 := Lib.hid ((HO.out.keep hb1).keep (below1 w1 (.cells [.slice px nx cx].toArray 29)))
      have HX := Lib.hid (hx.ok.keep (below1 w1 (.cells [.slice px nx cx].toArray 29)))
      have HAp := Lib.hid (hx.apart (v := u3) (fun g hg => (HO.out.lt g hg).2))
      clear hx hb1 hb
      go_wp2_with (at_builtin; refine wpList_append_r (w0 := w) rfl (.tmp 12) (.tmp 18) rfl u3 Y rfl HO1.out (hbw.out.alloc hbw.out.size _) w1.heap.size 1 1 [.slice px nx cx] [B] rfl rfl rfl (laid_new w1 [.slice px nx cx]) (one_row HX.out HAp.out) (one_cells HX.out) HKl.out _ rfl ?_; intro v' w2 hown1 hb2)
      go_roundw
      case rel => exact ⟨k + 1, by omega, by go_num, hb2, by rw [HSN.out]; exact Lib.hid hown1⟩
      case measure => simp [intOf]; omega
    · have HFo := Lib.hid (show OwnR w.heap.size wr u3 (L.map bulk) by
        have h1 := HO.out
        rw [List.take_of_length_le (by rw [HLn.out]; omega)] at h1
        exact h1)
      clear HO
      have hml : (L.map bulk).length = n := by rw [List.length_map, HLn.out]
      obtain ⟨p, c', hv, hR, -⟩ := HFo.out.rs
      rw [hml] at hv
      subst hv
      have C := Lib.hid (rarray p (L.map bulk) n c' wr hml hR (by omega) (by have h1 := bulks_len L HZ.out; have h2 := HZs.out; rw [HLn.out] at h1; omega))
      clear hR hml
      go_wp2_with fail
      refine C.out.mono ?_
      rintro e w1 ⟨x, rfl, hx, hb1⟩
      go_wp2_with fail
      go_ret
      exact ⟨_, rfl, hx.base hb.size, hb.trans (hb1.mono hb.size)⟩
theorem rtexts (q : Option Addr) (L : List (List UInt8)) (n c : Nat) (w : World) (hL : L.length = n) (h : Ss w q L) (hn : n ≤ 1024) (hz : ∀ s ∈ L, s.length ≤ 1024) :
    Calls Tryd.prog 15 #[.slice q n c] w (Gives (texts L) w) :=
  rtexts_sum q L n c w hL h (by omega) (by have h1 := flat_le L 1024 hz; rw [hL] at h1; omega)

end Go.Proofs.YtodpocciimbjbaaDoor.RefR
