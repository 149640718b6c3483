/-
  The document's own Array and Texts of layer 5 (package tipstaffref05).
-/
import Derived.Test.YtodpocciimbjbaaDoorRefBulk
import Derived.Test.YtodpocciimbjbaaDoorReplyRows
namespace Go.Proofs.YtodpocciimbjbaaDoor.RefR
open Go.RowKit Kit BytesIn ReplyMath ReplyT NumMath
set_option linter.unusedVariables false
set_option maxRecDepth 100000

def headOf (n : Nat) : List UInt8 := 42 :: (Lib.itoa (n : Int) ++ [13, 10])
theorem array_head (L : List (List UInt8)) : array L = headOf L.length ++ L.flatten := by simp [array, headOf]
theorem headOf_len (n : Nat) (h : n ≤ 1048576) : (headOf n).length ≤ 23 := by
  have := itoa_len (n : Int) (by omega) (by omega)
  simp [headOf]
  omega
theorem flatten_snoc (L : List (List UInt8)) (k : Nat) (h : k < L.length) : (L.take (k + 1)).flatten = (L.take k).flatten ++ L[k] := by
  rw [List.take_succ_eq_append_getElem h, List.flatten_append, List.flatten_cons, List.flatten_nil, List.append_nil]
theorem flatten_take_le (L : List (List UInt8)) (k : Nat) : (L.take k).flatten.length ≤ L.flatten.length := by
  have h := congrArg (fun x => x.flatten.length) (List.take_append_drop k L)
  simp only [List.flatten_append, List.length_append] at h
  omega

set_option maxHeartbeats 4000000 in
theorem rarray (q : Option Addr) (L : List (List UInt8)) (n c : Nat) (w : World) (hL : L.length = n) (h : Rs w q L) (hn : n ≤ 1048576) (hz : L.flatten.length ≤ 1073741824) :
    Calls Tryd.prog 31 #[.slice q n c] w (Gives (array L) w) := by
  have C := Lib.hid (Ref01.text_any (n : Int).natAbs (n : Int) w (Nat.le_refl _) (by omega) (by omega))
  obtain ⟨F, hF⟩ : ∃ F : ByteArray, F = ⟨(Lib.itoa (n : Int)).toArray⟩ := ⟨_, rfl⟩
  have HE := Lib.hid (show (⟨#[42]⟩ ++ F ++ ⟨#[13, 10]⟩ : ByteArray).data.toList = headOf n by rw [hF]; simp [headOf])
  have hsz : F.size ≤ 20 := by rw [hF, size_bytes]; exact itoa_len _ (by omega) (by omega)
  rw [← hF] at C
  clear hF
  have hcv := fun W T => run_bytes W T
  have HLn := Lib.hid hL
  have HR := Lib.hid h
  have HHd := Lib.hid (headOf_len n hn)
  have HFin := Lib.hid (show headOf n ++ L.flatten = array L by rw [array_head, hL])
  clear h hL
  go_enter Tryd.func31, Tryd.ntmps31
  go_wp2_with fail
  refine C.out.mono ?_
  rintro e w1 ⟨rfl, hb1⟩
  have HO0 := Lib.hid (own_conv w1 (⟨#[42]⟩ ++ F ++ ⟨#[13, 10]⟩) (1 + F.size + 2) (by simp only [ByteArray.size_append, lit_one, lit_two]) (by omega))
  rw [HE.out] at HO0
  have HB2 := Lib.hid (hb1.trans ((bytesWorld_below w1 5 (⟨#[42]⟩ ++ F ++ ⟨#[13, 10]⟩)).mono hb1.size))
  have HLe := Lib.hid hb1.size
  clear hb1
  go_wp2_with fail
  go_loopw [3, 4] (fun v i wr => ∃ k : Nat, k ≤ n ∧ i = .int .i64 k ∧ Below w.heap.size w wr ∧ Hid (OwnG w.heap.size wr v (headOf n ++ (L.take k).flatten))) (fun _ i _ => n - (intOf i).toNat)
  case atStart =>
    refine ⟨0, Nat.zero_le _, rfl, HB2.out, Lib.hid ?_⟩
    rw [List.take_zero, List.flatten_nil, List.append_nil]
    rcases HO0.out with ⟨h1, -⟩ | ⟨g, cap, h1, h2, h3⟩
    · cases h1
    · exact Or.inr ⟨g, cap, h1, Nat.le_trans HLe.out h2, h3⟩
  case round =>
    obtain ⟨k, hk, rfl, hb, HO⟩ := hrel
    by_cases hlt : k < n
    · have hkl : k < L.length := by rw [HLn.out]; exact hlt
      obtain ⟨b, off, rfl, hbl, hc⟩ := (HR.out.keep hb) (by omega)
      obtain ⟨u, hu, p, cu, rfl, hB, hB1, hB2, hB3⟩ := hc k hkl
      have HBu := Lib.hid hB
      have HSN := Lib.hid (show headOf n ++ (L.take (k + 1)).flatten = headOf n ++ (L.take k).flatten ++ L[k] by rw [flatten_snoc L k hkl, List.append_assoc])
      have HLen := Lib.hid (show (headOf n ++ (L.take k).flatten).length + L[k].length ≤ 70368744177664 by
        have h1 := flatten_take_le L (k + 1)
        have h2 := HHd.out
        rw [flatten_snoc L k hkl, List.length_append] at h1
        rw [List.length_append]
        omega)
      have HNil := Lib.hid hB3
      clear hc hB hB3
      obtain ⟨X, hX⟩ : ∃ X, X = L[k] := ⟨_, rfl⟩
      rw [← hX] at hu HBu HSN HLen hB1
      clear hX
      obtain ⟨Y, hY⟩ : ∃ Y, Y = headOf n ++ (L.take k).flatten := ⟨_, rfl⟩
      rw [← hY] at HSN HLen HO
      clear hY
      go_wp2_with (at_builtin; refine wpList_append_g (w0 := w) rfl (.tmp 17) (.tmp 21) rfl u3 Y rfl HO.out hb p X X.length cu rfl rfl HBu.out HNil.out HLen.out _ rfl ?_; intro v' w1' hown1 hb1)
      go_roundw
      case rel => exact ⟨k + 1, by omega, by go_num, hb1, by rw [HSN.out]; exact Lib.hid hown1⟩
      case measure => simp [intOf]; omega
    · have HFo := Lib.hid (show OwnG w.heap.size wr u3 (array L) by
        have h1 := HO.out
        rw [List.take_of_length_le (by rw [HLn.out]; omega), HFin.out] at h1
        exact h1)
      clear HO
      go_wp2_with fail
      go_ret
      exact ⟨_, rfl, HFo.out.ans, hb⟩

end Go.Proofs.YtodpocciimbjbaaDoor.RefR
