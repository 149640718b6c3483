/-
  What the program's own ways of telling a reply on a line, or a bulk, come to: reply.Simple, Err, Int, Bulk, Null, NoArray.
-/
import Derived.Test.YtodpocciimbjbaaDoorReplyTell
import Derived.Test.YtodpocciimbjbaaDoorNumText
namespace Go.Proofs.YtodpocciimbjbaaDoor.ReplyM
open Go.RowKit Kit BytesIn ReplyMath ReplyT NumMath NumL
set_option linter.unusedVariables false
set_option maxRecDepth 100000

theorem Own.low {b b' : Nat} {w : World} {v : Value} {l : List UInt8} (h : Own b w v l) (hb : b' ≤ b) : Own b' w v l := by
  refine ⟨h.1, ?_⟩
  rcases h.2 with h1 | ⟨g, cap, cur, e, hg, h2⟩
  · exact Or.inl h1
  · exact Or.inr ⟨g, cap, cur, e, Nat.le_trans hb hg, h2⟩
theorem line_is (k : UInt8) (kv : Int) (hk : kv = (k.toNat : Int)) (s : ByteArray) (w0 w : World) (hz : s.size ≤ 1048576) (hb : Below w0.heap.size w0 w) (l : List UInt8) (hl : k :: (s.data.toList ++ [13, 10]) = l) :
    Calls Tryd.prog 45 #[.int .u8 kv, .string s] w fun e w' => ∃ v, e = .returned v ∧ Own w0.heap.size w' v l ∧ Below w0.heap.size w0 w' := by
  subst hk hl
  refine (line_own k s w hz).mono ?_
  rintro e w' ⟨v, he, ho, hb2⟩
  exact ⟨v, he, Own.low ho hb.size, hb.trans (hb2.mono hb.size)⟩
theorem text_len (n : Int) (h0 : -9223372036854775808 ≤ n) (h1 : n ≤ 9223372036854775807) : (⟨(Lib.itoa n).toArray⟩ : ByteArray).size ≤ 20 := by rw [size_bytes]; exact itoa_len n h0 h1

theorem err_any (s : ByteArray) (w : World) (hz : s.size ≤ 1048576) (hg : Gt w) : Calls Tryd.prog 29 #[.string s] w (Gives (err s.data.toList) w) := by
  have C := Lib.hid (flat_any s w hz)
  obtain ⟨F, hF⟩ : ∃ F : ByteArray, F = ⟨(flat s.data.toList).toArray⟩ := ⟨_, rfl⟩
  have hsz : F.size ≤ 1048576 := by rw [hF, size_bytes, flat, List.length_map, str_len]; exact hz
  have L := Lib.hid (fun W hb => line_is 45 45 rfl F w W hsz hb (err s.data.toList) (by rw [hF]; rfl))
  rw [← hF] at C
  clear hF
  go_enter Tryd.func29, Tryd.ntmps29
  go_wp2_with fail
  refine C.out.mono ?_
  rintro e w1 ⟨rfl, hb⟩
  go_wp2_with fail
  refine (L.out _ hb).mono ?_
  rintro e w2 ⟨v, rfl, ho, hb2⟩
  go_wp2_with fail
  go_ret
  exact ⟨_, rfl, ho.ans, hb2⟩
theorem int_any (n : Int) (w : World) (h0 : -9223372036854775808 ≤ n) (h1 : n ≤ 9223372036854775807) (hg : Gt w) : Calls Tryd.prog 50 #[.int .i64 n] w (Gives (int n) w) := by
  have C := Lib.hid (text_t n h0 h1 w hg)
  obtain ⟨F, hF⟩ : ∃ F : ByteArray, F = ⟨(Lib.itoa n).toArray⟩ := ⟨_, rfl⟩
  have hsz : F.size ≤ 1048576 := by rw [hF]; exact Nat.le_trans (text_len n h0 h1) (by decide)
  have L := Lib.hid (fun W hb => line_is 58 58 rfl F w W hsz hb (int n) (by rw [hF]; rfl))
  rw [← hF] at C
  clear hF hg
  go_enter Tryd.func50, Tryd.ntmps50
  go_wp2_with fail
  refine C.out.mono ?_
  rintro e w1 ⟨rfl, hb⟩
  go_wp2_with fail
  refine (L.out _ hb).mono ?_
  rintro e w2 ⟨v, rfl, ho, hb2⟩
  go_wp2_with fail
  go_ret
  exact ⟨_, rfl, ho.ans, hb2⟩
set_option maxHeartbeats 1000000 in
theorem bulk_any (s : ByteArray) (w : World) (hz : s.size ≤ 1048576) (hg : Gt w) : Calls Tryd.prog 53 #[.string s] w (Gives (bulk s.data.toList) w) := by
  have C := Lib.hid (text_t (s.size : Int) (by omega) (by omega) w hg)
  obtain ⟨F, hF⟩ : ∃ F : ByteArray, F = ⟨(Lib.itoa (s.size : Int)).toArray⟩ := ⟨_, rfl⟩
  have hF20 : F.size ≤ 20 := by rw [hF]; exact text_len _ (by omega) (by omega)
  obtain ⟨H, hH⟩ : ∃ H : List UInt8, H = 36 :: (F.data.toList ++ [13, 10]) := ⟨_, rfl⟩
  have L := Lib.hid (fun W hb => line_is 36 36 rfl F w W (by omega) hb H hH.symm)
  have HH := Lib.hid (show H.length ≤ 23 by rw [hH]; simp; omega)
  have HE := Lib.hid (show H ++ s.data.toList ++ (⟨#[13, 10]⟩ : ByteArray).data.toList = bulk s.data.toList by rw [hH, hF]; simp [bulk])
  have HSL := Lib.hid (str_len s)
  rw [← hF] at C
  clear hF hg hH
  go_enter Tryd.func53, Tryd.ntmps53
  go_wp2_with fail
  refine C.out.mono ?_
  rintro e w1 ⟨rfl, hb⟩
  go_wp2_with fail
  refine (L.out _ hb).mono ?_
  rintro e w2 ⟨v, rfl, ho, hb2⟩
  go_wp2_with (at_builtin; first
    | (refine wpList_append_str (w0 := w) rfl (.tmp 7) (.tmp 8) rfl v H rfl ho hb2 s rfl (by have := HH.out; omega) ?_; intro v3 w3 ho3 hb3)
    | (refine wpList_append_str (w0 := w) rfl (.tmp 10) _ rfl v3 _ rfl ho3 hb3 ⟨#[13, 10]⟩ rfl (by rw [List.length_append, HSL.out, crlf_size]; have := HH.out; omega) ?_; intro v4 w4 ho4 hb4))
  rw [HE.out] at ho4
  go_ret
  exact ⟨_, rfl, ho4.ans, hb4⟩

end Go.Proofs.YtodpocciimbjbaaDoor.ReplyM
