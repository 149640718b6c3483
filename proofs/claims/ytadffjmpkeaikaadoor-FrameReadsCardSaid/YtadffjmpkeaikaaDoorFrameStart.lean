/-
  The landed code of layer 6: frame.start and frame.Put, how words are put.
-/
import Derived.Test.YtadffjmpkeaikaaDoorFrameLine
import Derived.Test.YtadffjmpkeaikaaDoorNumParse
namespace Go.Proofs.YtadffjmpkeaikaaDoor.FrameM
open Go.RowKit Kit BytesIn ReplyMath ReplyT NumMath NumL FrameMath FrameT
set_option linter.unusedVariables false
set_option maxRecDepth 100000

theorem own_low {b b' : Nat} {w : World} {v : Value} {l : List UInt8} (h : Own b w v l) (hb : b' ≤ b) : Own b' w v l := by
  refine ⟨h.1, ?_⟩
  rcases h.2 with h1 | ⟨g, cap, cur, e, hg, h2⟩
  · exact Or.inl h1
  · exact Or.inr ⟨g, cap, cur, e, Nat.le_trans hb hg, h2⟩
theorem own_nil (base : Nat) (w : World) : Own base w (.slice none 0 0) [] := World.ownsRow_nil w base _ 1
theorem lit1_at (w : World) (g : Nat) (c : UInt8) (v : Int) (h : v = (c.toNat : Int)) (hg : w.heap.size = g) : Bs (w.alloc (.cells #[.int .u8 v] 5)) (some ⟨g, 0, none⟩) [c] := hg ▸ lit1_bs w c v h
theorem crlf_size : (⟨#[13, 10]⟩ : ByteArray).size = 2 := rfl
theorem text_len (n : Int) (h0 : -9223372036854775808 ≤ n) (h1 : n ≤ 9223372036854775807) : (⟨(Lib.itoa n).toArray⟩ : ByteArray).size ≤ 20 := by rw [size_bytes]; exact itoa_len n h0 h1
set_option maxHeartbeats 2000000 in
theorem start_any (k : UInt8) (v : Value) (X Z : List UInt8) (n : Nat) (w0 w : World) (hown : Own w0.heap.size w v X) (hb : Below w0.heap.size w0 w) (hX : X.length ≤ 2097152) (hn : n ≤ 1048576) (hg : Gd w0) (hZ : X ++ told k n = Z) :
    Calls Tryd.prog 29 #[v, .int .u8 (k.toNat : Int), .int .i64 (n : Int)] w fun e w' => ∃ v', e = .returned v' ∧ Own w0.heap.size w' v' Z ∧ Below w0.heap.size w0 w' := by
  obtain ⟨F, hF⟩ : ∃ F : ByteArray, F = ⟨(Lib.itoa (n : Int)).toArray⟩ := ⟨_, rfl⟩
  have hF20 : F.size ≤ 20 := by rw [hF]; exact text_len _ (by omega) (by omega)
  have HE := Lib.hid (show X ++ [k] ++ F.data.toList ++ (⟨#[13, 10]⟩ : ByteArray).data.toList = Z by rw [← hZ, hF]; simp [told])
  obtain ⟨Y, hY⟩ : ∃ Y, Y = X ++ [k] := ⟨_, rfl⟩
  have HYl := Lib.hid (show Y.length ≤ 2097153 by rw [hY, List.length_append]; simp; omega)
  have C := Lib.hid (fun W (h : Below w0.heap.size w0 W) => text_any (n : Int) (by omega) (by omega) W (hg.keep h))
  have HO := Lib.hid hown
  have HB := Lib.hid hb
  have HSF := Lib.hid (str_len F)
  have HY := Lib.hid hY
  rw [← hF] at C
  rw [← hY] at HE
  have HOA := Lib.hid (own_keep hown (below1 w (.cells #[.int .u8 (k.toNat : Int)] 5)))
  have HBA := Lib.hid (hb.alloc hb.size (.cells #[.int .u8 (k.toNat : Int)] 5))
  have HL1 := Lib.hid (lit1_at w w.heap.size k _ rfl rfl)
  clear hF hg hown hb hZ hY
  go_enter Tryd.func29, Tryd.ntmps29
  go_wp2_with (at_builtin; first
    | (refine wpList_append_bs (w0 := w0) rfl (.tmp 7) (.tmp 9) rfl v X rfl HOA.out HBA.out (some ⟨_, 0, none⟩) [k] 1 1 rfl rfl HL1.out (fun h => by cases h) (by omega) Y HY.out ?_; intro v1 w1 ho1 hb1))
  refine (C.out w1 hb1).mono ?_
  rintro e w2 ⟨rfl, hb2⟩
  have ho2 := own_keep ho1 hb2
  have hb3 := hb1.trans (hb2.mono hb1.size)
  clear hb2 ho1 hb1
  go_wp2_with (at_builtin; first
    | (refine wpList_append_str (w0 := w0) rfl (.tmp 11) (.tmp 13) rfl v1 Y rfl ho2 hb3 F rfl (by have := HYl.out; omega) ?_; intro v2 w3 ho3 hb3')
    | (refine wpList_append_str (w0 := w0) rfl (.tmp 15) _ rfl v2 _ rfl ho3 hb3' ⟨#[13, 10]⟩ rfl (by rw [List.length_append, HSF.out, crlf_size]; have := HYl.out; omega) ?_; intro v3 w4 ho4 hb4))
  rw [HE.out] at ho4
  go_ret
  exact ⟨_, rfl, ho4, hb4⟩

/-- Words put one behind the other. -/
theorem put_cons (X s : List UInt8) : X ++ told 36 s.length ++ s ++ [13, 10] = X ++ bulk s := by rw [bulk_told]; simp
theorem bulks_len : ∀ (L : List (List UInt8)), (∀ s ∈ L, s.length ≤ 1024) → (L.map bulk).flatten.length ≤ L.length * 1054
  | [], _ => by simp
  | s :: L, h => by
    have h1 := h s (by simp)
    have h2 := bulks_len L (fun t ht => h t (by simp [ht]))
    have h3 : (bulk s).length ≤ 1054 := by
      rw [bulk_told, List.length_append, told_len]
      have := itoa_len (s.length : Int) (by omega) (by omega)
      simp
      omega
    rw [List.map_cons, List.flatten_cons, List.length_append, List.length_cons, Nat.succ_mul]
    omega
theorem told_small (k : UInt8) (n : Nat) (h : n ≤ 1048576) : (told k n).length ≤ 23 := by
  rw [told_len]
  have := itoa_len (n : Int) (by omega) (by omega)
  omega
set_option maxHeartbeats 2000000 in
theorem put_any (q : Option Addr) (L : List (List UInt8)) (n c : Nat) (w : World) (hL : L.length = n) (h : Ss w q L) (hc : n ≤ c) (hcm : c ≤ 9223372036854775807) (hnil : q = none → c = 0) (hn : n ≤ 1024) (hz : ∀ s ∈ L, s.length ≤ 1024) (hg : Gd w) :
    Calls Tryd.prog 15 #[.slice q n c] w (Gives (texts L) w) := by
  have HLn := Lib.hid hL
  have HS := Lib.hid h
  have HZ := Lib.hid hz
  have HG := Lib.hid hg
  have C0 := Lib.hid (start_any 42 (.slice none 0 0) [] (told 42 n) n w w (own_nil _ _) (Below.refl _ _) (by simp) (by omega) hg (by simp))
  clear h hL hz hg hnil
  go_enter Tryd.func15, Tryd.ntmps15
  go_wp2_with fail
  refine C0.out.mono ?_
  rintro e w1 ⟨v1, rfl, ho1, hb1⟩
  go_wp2_with fail
  go_loopw [3, 11] (fun v i wr => ∃ k : Nat, k ≤ n ∧ i = .int .i64 k ∧ Below w.heap.size w wr ∧ Hid (Own w.heap.size wr v (told 42 n ++ ((L.take k).map bulk).flatten))) (fun _ i _ => n - (intOf i).toNat)
  case atStart => exact ⟨0, Nat.zero_le _, rfl, hb1, Lib.hid (by simpa using ho1)⟩
  case round =>
    clear ho1 hb1 C0
    obtain ⟨k, hk, rfl, hb, HR⟩ := hrel
    have hbs := hb.size
    by_cases hlt : k < n
    · have hkl : k < L.length := by rw [HLn.out]; exact hlt
      obtain ⟨b, off, rfl, hbl, hcell⟩ := (HS.out.keep hb) (by omega)
      have hu := hcell k hkl
      obtain ⟨s, hs⟩ : ∃ s, s = L[k] := ⟨_, rfl⟩
      rw [← hs] at hu
      have hsz : s.length ≤ 1024 := by rw [hs]; exact HZ.out _ (List.getElem_mem hkl)
      obtain ⟨X, hX⟩ : ∃ X, X = told 42 n ++ ((L.take k).map bulk).flatten := ⟨_, rfl⟩
      have HXl : X.length ≤ 1079319 := by
        have h1 := told_small 42 n (by omega)
        have h2 := bulks_len (L.take k) (fun t ht => HZ.out t (List.mem_of_mem_take ht))
        have h3 : (L.take k).length ≤ 1024 := by rw [List.length_take]; omega
        rw [hX, List.length_append]
        omega
      have HN := Lib.hid (show told 42 n ++ ((L.take (k + 1)).map bulk).flatten = X ++ bulk s by
        rw [hX, hs, List.take_succ_eq_append_getElem hkl, List.map_append, List.flatten_append, ← List.append_assoc]
        simp only [List.map_cons, List.map_nil, List.flatten_cons, List.flatten_nil, List.append_nil])
      have HN2 := Lib.hid (show X ++ told 36 s.length ++ s ++ (⟨#[13, 10]⟩ : ByteArray).data.toList = X ++ bulk s from put_cons X s)
      rw [← hX] at HR
      obtain ⟨S, hS⟩ : ∃ S : ByteArray, S = ⟨s.toArray⟩ := ⟨_, rfl⟩
      have HT := Lib.hid (show S.data.toList = s by rw [hS])
      have HSz := Lib.hid (show S.size = s.length by rw [hS, size_bytes])
      obtain ⟨m, hm⟩ : ∃ m, m = s.length := ⟨_, rfl⟩
      have HTl := Lib.hid (show (X ++ told 36 m).length ≤ 1079350 by
        have := told_small 36 m (by omega)
        rw [List.length_append]
        omega)
      have C1 := Lib.hid (start_any 36 u3 X (X ++ told 36 m) m w wr HR.out hb (by omega) (by omega) HG.out rfl)
      have HSm := Lib.hid (show S.size = m by rw [HSz.out, hm])
      have HSmm := Lib.hid (show m ≤ 1024 by omega)
      rw [← hS] at hu
      rw [← hm] at HN2
      clear hX hs hS hcell hm HR hsz HXl hkl
      go_wp2_with fail
      rw [HSm.out]
      refine C1.out.mono ?_
      rintro e w2 ⟨v2, rfl, ho2, hb2⟩
      clear C1
      go_wp2_with (at_builtin; first
        | (refine wpList_append_str (w0 := w) rfl (.tmp 19) (.tmp 20) rfl v2 _ rfl ho2 hb2 S rfl (by have := HTl.out; have := HSm.out; have := HSmm.out; omega) ?_; intro v3 w3 ho3 hb3)
        | (refine wpList_append_str (w0 := w) rfl (.tmp 22) _ rfl v3 _ rfl ho3 hb3 ⟨#[13, 10]⟩ rfl (by rw [List.length_append, str_len, crlf_size]; have := HTl.out; have := HSm.out; have := HSmm.out; omega) ?_; intro v4 w4 ho4 hb4))
      rw [HT.out, HN2.out] at ho4
      have HO4 := Lib.hid ho4
      clear ho4 ho2
      go_roundw
      case rel => exact ⟨k + 1, by omega, by go_num, hb4, by rw [HN.out]; exact HO4⟩
      case measure => simp [intOf]; omega
    · have HF := Lib.hid (show Own w.heap.size wr u3 (texts L) by
        have h1 := HR.out
        rw [List.take_of_length_le (by rw [HLn.out]; omega)] at h1
        rw [texts_told, HLn.out]
        exact h1)
      clear HR
      go_wp2_with fail
      go_ret
      exact ⟨_, rfl, HF.out.ans, hb⟩

end Go.Proofs.YtadffjmpkeaikaaDoor.FrameM
