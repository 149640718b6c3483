/-
  bytes.IndexAny and bytes.ContainsAny at the two bytes of a line's end: rows of whatever length.
-/
import Derived.Test.YteojijocoamohaaDoorBytesSet
import Derived.Test.YteojijocoamohaaDoorShelfD
import Derived.Lib.IndexEntry
import Derived.Lib.MapLaws
import Derived.Laws.RangeString
import Derived.Laws.Externs
namespace Go.Proofs.YteojijocoamohaaDoor.BytesA
open Go.RowKit Kit BytesIn ReplyMath ReplyT
set_option linter.unusedVariables false
set_option maxRecDepth 100000

theorem cell_lt {w : World} {a : Addr} {v : Value} (h : w.cell? a = some v) : a.block < w.heap.size := by
  rcases Nat.lt_or_ge a.block w.heap.size with h' | h'
  · exact h'
  · simp [World.cell?, Array.getElem?_eq_none h'] at h
/-- What decoding runes asks of the world: two tables; and that a variable holds an integer. -/
structure Ut (w : World) : Prop where
  tabs : Lib.Utf8Tabs 2 3 w
  mx : ∃ m, w.cell? ⟨0, 0, none⟩ = some (.int .i64 m)
theorem Ut.keep {w w' : World} (h : Ut w) (hb : Below w.heap.size w w') : Ut w' := by
  obtain ⟨⟨h1, h2⟩, m, h3⟩ := h
  refine ⟨⟨fun c hc => ?_, fun i hi => ?_⟩, m, ?_⟩
  · have := h1 c hc
    rw [hb.cell (cell_lt this)]; exact this
  · have := h2 i hi
    rw [hb.cell (cell_lt this.1), hb.cell (cell_lt this.2)]; exact this
  · rw [hb.cell (cell_lt h3)]; exact h3

/-- The rune that the row has from a place on, and its width. -/
def dec (l : List UInt8) (k : Nat) : Nat × Nat := Lib.decodeGo ⟨(l.drop k).toArray⟩
theorem get!_at (l : List UInt8) (j : Nat) (h : j < l.length) : (⟨l.toArray⟩ : ByteArray).get! j = l[j] := by
  have : (⟨l.toArray⟩ : ByteArray).get! j = l.toArray[j]! := rfl
  rw [this]
  simp [h]
theorem dec_call (b off c k n : Nat) (l : List UInt8) (w : World) (hn : l.length = n) (hk : k < n) (hB : ∀ j (h : j < l.length), w.cell? ⟨b, off + j, none⟩ = some (.int .u8 (l[j].toNat : Int))) (hU : Ut w) :
    Calls Tryd.prog 66 #[.slice (some ⟨b, off + k, none⟩) (n - k) c] w fun e w' => e = .returned (.tuple #[.int .i32 ((dec l k).1 : Int), .int .i64 ((dec l k).2 : Int)]) ∧ Below w.heap.size w w' := by
  have hsz : (⟨(l.drop k).toArray⟩ : ByteArray).size = n - k := by rw [size_bytes, List.length_drop, hn]
  have h := Tryd.utf8_DecodeRune ⟨(l.drop k).toArray⟩ b (off + k) c w hU.tabs (fun j hj => by
    rw [hsz] at hj
    have h1 := hB (k + j) (by omega)
    rw [get!_at _ _ (by rw [List.length_drop]; omega), List.getElem_drop, Nat.add_assoc]
    exact h1)
  rw [hsz] at h
  exact h
theorem dec_shape (l : List UInt8) (k : Nat) (hk : k < l.length) (h128 : 128 ≤ l[k].toNat) :
    (∃ h1 : k + 1 < l.length, 128 ≤ (l[k + 1]'h1).toNat ∧ 128 ≤ (dec l k).1 ∧ (dec l k).1 < 2048 ∧ (dec l k).2 = 2) ∨
    (∃ (h1 : k + 1 < l.length) (h2 : k + 2 < l.length), 128 ≤ (l[k + 1]'h1).toNat ∧ 128 ≤ (l[k + 2]'h2).toNat ∧ 2048 ≤ (dec l k).1 ∧ (dec l k).1 < 65536 ∧ ((dec l k).1 < 55296 ∨ 57344 ≤ (dec l k).1) ∧ (dec l k).2 = 3) ∨
    (∃ (h1 : k + 1 < l.length) (h2 : k + 2 < l.length) (h3 : k + 3 < l.length), 128 ≤ (l[k + 1]'h1).toNat ∧ 128 ≤ (l[k + 2]'h2).toNat ∧ 128 ≤ (l[k + 3]'h3).toNat ∧ 65536 ≤ (dec l k).1 ∧ (dec l k).1 ≤ 1114111 ∧ (dec l k).2 = 4) ∨
    dec l k = (65533, 1) := by
  have hsz : (⟨(l.drop k).toArray⟩ : ByteArray).size = l.length - k := by rw [size_bytes, List.length_drop]
  have hd : dec l k = Lib.decodeN (l.length - k) ((⟨(l.drop k).toArray⟩ : ByteArray).get! 0).toNat ((⟨(l.drop k).toArray⟩ : ByteArray).get! 1).toNat ((⟨(l.drop k).toArray⟩ : ByteArray).get! 2).toNat ((⟨(l.drop k).toArray⟩ : ByteArray).get! 3).toNat := by
    unfold dec Lib.decodeGo
    rw [if_neg (by rw [hsz]; omega), Lib.decode_at, hsz]
    rfl
  have g : ∀ j (h : k + j < l.length), (⟨(l.drop k).toArray⟩ : ByteArray).get! j = l[k + j] := fun j h => by
    rw [get!_at _ _ (by rw [List.length_drop]; omega), List.getElem_drop]
  have h0 : 128 ≤ ((⟨(l.drop k).toArray⟩ : ByteArray).get! 0).toNat := by rw [g 0 (by omega)]; exact h128
  have hlt : ((⟨(l.drop k).toArray⟩ : ByteArray).get! 0).toNat < 256 := UInt8.toNat_lt _
  rcases Lib.decodeN_shape (l.length - k) ((⟨(l.drop k).toArray⟩ : ByteArray).get! 0).toNat ((⟨(l.drop k).toArray⟩ : ByteArray).get! 1).toNat ((⟨(l.drop k).toArray⟩ : ByteArray).get! 2).toNat ((⟨(l.drop k).toArray⟩ : ByteArray).get! 3).toNat with h | h | h | h | h
  · omega
  · obtain ⟨a1, a2, a3, a4, e⟩ := h
    have hk1 : k + 1 < l.length := by omega
    rw [← hd] at e
    rw [e]
    rw [g 1 hk1] at a3 a4 ⊢
    exact Or.inl ⟨hk1, by omega, by simp only; omega, by simp only; omega, rfl⟩
  · obtain ⟨a1, a2, a3, a4, a5, a6, e⟩ := h
    have hk1 : k + 1 < l.length := by omega
    have hk2 : k + 2 < l.length := by omega
    rw [← hd] at e
    rw [e]
    rw [g 1 hk1, g 2 hk2] at *
    exact Or.inr (Or.inl ⟨hk1, hk2, by omega, by omega, by simp only; omega, by simp only; omega, by simp only; omega, rfl⟩)
  · obtain ⟨a1, a2, a3, a4, a5, a6, a7, e⟩ := h
    have hk1 : k + 1 < l.length := by omega
    have hk2 : k + 2 < l.length := by omega
    have hk3 : k + 3 < l.length := by omega
    rw [← hd] at e
    rw [e]
    rw [g 1 hk1, g 2 hk2, g 3 hk3] at *
    exact Or.inr (Or.inr (Or.inl ⟨hk1, hk2, hk3, by omega, by omega, by omega, by simp only; omega, by simp only; omega, rfl⟩))
  · exact Or.inr (Or.inr (Or.inr (hd.trans h)))
theorem high_ne {c : UInt8} (h : 128 ≤ c.toNat) : c ≠ 13 ∧ c ≠ 10 := by
  constructor <;> (rintro rfl; exact absurd h (by decide))
theorem clean_high {l : List UInt8} {k : Nat} (h : clean (l.take k) = true) (hk : k < l.length) (hh : 128 ≤ l[k].toNat) : clean (l.take (k + 1)) = true := clean_more h hk (high_ne hh).1 (high_ne hh).2
/-- Behind such a rune all is as before. -/
theorem dec_next (l : List UInt8) (k : Nat) (hk : k < l.length) (h128 : 128 ≤ l[k].toNat) (hcl : clean (l.take k) = true) :
    1 ≤ (dec l k).2 ∧ k + (dec l k).2 ≤ l.length ∧ (dec l k).2 ≤ 4 ∧ clean (l.take (k + (dec l k).2)) = true ∧ 128 ≤ (dec l k).1 ∧ (dec l k).1 ≤ 1114111 := by
  have c1 := clean_high hcl hk h128
  rcases dec_shape l k hk h128 with h | h | h | h
  · obtain ⟨h1, a1, r0, r1, e⟩ := h
    rw [e]
    exact ⟨by omega, by omega, by omega, clean_high c1 h1 a1, r0, by omega⟩
  · obtain ⟨h1, h2, a1, a2, r0, r1, -, e⟩ := h
    rw [e]
    exact ⟨by omega, by omega, by omega, clean_high (clean_high c1 h1 a1) h2 a2, by omega, by omega⟩
  · obtain ⟨h1, h2, h3, a1, a2, a3, r0, r1, e⟩ := h
    rw [e]
    exact ⟨by omega, by omega, by omega, clean_high (clean_high (clean_high c1 h1 a1) h2 a2) h3 a3, by omega, by omega⟩
  · rw [h]
    exact ⟨by decide, by simp only; omega, by decide, c1, by decide, by decide⟩
/-- The rune as a text: two bytes of which the first is none of ours; or more bytes than two. -/
theorem enc_two (r : Nat) (h0 : 128 ≤ r) (h1 : r < 2048) : (Utf8.encode (r : Int)).data.toList = [UInt8.ofNat (192 + r / 64), UInt8.ofNat (128 + r % 64)] := by
  have hv : Utf8.valid (r : Int) = true := by simp [Utf8.valid]; omega
  simp only [Utf8.encode, hv, if_true, Int.toNat_natCast]
  rw [if_neg (by omega), if_pos (by omega)]
theorem enc_size (r : Nat) (h0 : 2048 ≤ r) (h1 : r ≤ 1114111) (hv' : r < 55296 ∨ 57344 ≤ r) : (Utf8.encode (r : Int)).size = if r < 65536 then 3 else 4 := by
  have hv : Utf8.valid (r : Int) = true := by simp [Utf8.valid]; omega
  simp only [Utf8.encode, hv, if_true, Int.toNat_natCast]
  rw [if_neg (by omega), if_neg (by omega)]
  by_cases h : r < 65536
  · rw [if_pos h, if_pos h]; rfl
  · rw [if_neg h, if_neg h]; rfl
theorem enc_ne (r : Nat) (h0 : 128 ≤ r) (h1 : r < 2048) (S : ByteArray) (hS : S.data.toList = [13, 10]) : (S.toList == (Utf8.encode (r : Int)).toList) = false := by
  rw [Lib.toList_data, Lib.toList_data, hS, enc_two r h0 h1, beq_eq_false_iff_ne]
  intro h
  injection h with h _
  have := congrArg UInt8.toNat h
  rw [UInt8.toNat_ofNat'] at this
  have h13 : (13 : UInt8).toNat = 13 := rfl
  omega
theorem index_long (S T : ByteArray) (hS : S.data.toList = [13, 10]) (hT : 3 ≤ T.size) : Lib.index S.data.toList T.data.toList = -1 := by
  have : T.data.toList.length = T.size := (Lib.size_eq T).symm
  rw [hS]
  match h : T.data.toList with
  | [] => rw [h] at this; simp at this; omega
  | [a] => rw [h] at this; simp at this; omega
  | [a, b] => rw [h] at this; simp at this; omega
  | a :: b :: c :: r => simp [Lib.index, List.isPrefixOf]
theorem byte_no (S : ByteArray) (hS : S.data.toList = [13, 10]) (c : UInt8) (h13 : c ≠ 13) (h10 : c ≠ 10) (W : World) :
    (callFunc 61 #[.string S, .int .u8 (c.toNat : Int)]).run Tryd.prog W = .ok (.value (.int .i64 (-1))) W := by
  rw [run_callFunc_extern Tryd.func61 (by kernel_rfl) (by kernel_rfl) (by kernel_rfl) (e := Extern.BytealgIndexByte.indexByte) (by kernel_rfl), Lib.run_indexByteString, hS]
  have e : ((c.toNat : Int)).toNat.toUInt8 = c := by simp
  rw [e]
  have : Lib.indexByte [13, 10] c = -1 := by
    simp [Lib.indexByte, beq_iff_eq, Ne.symm h13, Ne.symm h10]
  rw [this]
  rfl
theorem byte_yes (S : ByteArray) (hS : S.data.toList = [13, 10]) (c : UInt8) (h : c = 13 ∨ c = 10) : ∃ v : Int, 0 ≤ v ∧ ∀ W,
    (callFunc 61 #[.string S, .int .u8 (c.toNat : Int)]).run Tryd.prog W = .ok (.value (.int .i64 v)) W := by
  have key : ∀ v : Int, Lib.indexByte [13, 10] c = v → ∀ W, (callFunc 61 #[.string S, .int .u8 (c.toNat : Int)]).run Tryd.prog W = .ok (.value (.int .i64 v)) W := fun v hv W => by
    rw [run_callFunc_extern Tryd.func61 (by kernel_rfl) (by kernel_rfl) (by kernel_rfl) (e := Extern.BytealgIndexByte.indexByte) (by kernel_rfl), Lib.run_indexByteString, hS]
    have e : ((c.toNat : Int)).toNat.toUInt8 = c := by simp
    rw [e, hv]
    rfl
  rcases h with rfl | rfl
  · exact ⟨0, by decide, key 0 (by decide)⟩
  · exact ⟨1, by decide, key 1 (by decide)⟩
theorem text_no (S T : ByteArray) (hS : S.data.toList = [13, 10]) (m : Int) (W : World) (hm : W.cell? ⟨0, 0, none⟩ = some (.int .i64 m)) (hT : 3 ≤ T.size) (hle : (T.size : Int) ≤ m) :
    (callFunc 67 #[.string S, .string T]).run Tryd.prog W = .ok (.value (.int .i64 (-1))) W := by
  have hsz : S.size = 2 := by have := Lib.size_eq S; rw [hS] at this; exact this
  rw [run_callFunc_extern Tryd.func67 (by kernel_rfl) (by kernel_rfl) (by kernel_rfl) (e := Extern.BytealgIndex.index) (by kernel_rfl),
    Lib.run_indexString S T W 0 m (by kernel_rfl) hm (by omega) hle (by omega), index_long S T hS hT]
  rfl

end Go.Proofs.YteojijocoamohaaDoor.BytesA
