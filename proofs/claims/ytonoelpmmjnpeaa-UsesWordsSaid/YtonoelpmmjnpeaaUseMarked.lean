/-
  The landed code of layer 8: keys of a row of words, all read and written alike.
-/
import Derived.Test.YtonoelpmmjnpeaaUseKind
import Derived.Test.YtonoelpmmjnpeaaStrApp
namespace Go.Proofs.Ytonoelpmmjnpeaa.UseM
open Go.RowKit Kit StrT UseT TableMath Low MapT RefU
set_option linter.unusedVariables false
set_option maxRecDepth 100000

def UsesP (L : List U) (w : World) (e : Ending) (w' : World) : Prop := ∃ v, e = .returned v ∧ OwnU w.heap.size w' v L ∧ Below w.heap.size w w'
theorem mark_step (L : List (List UInt8)) (f : List UInt8 → U) (k : Nat) (h : k < L.length) : (L.take (k + 1)).map f = (L.take k).map f ++ [f (L.getD k [])] := by
  rw [List.take_succ_eq_append_getElem h, List.map_append]
  simp [List.getD, h]

set_option maxHeartbeats 4000000 in
theorem marked_any (q : Option Addr) (L : List (List UInt8)) (n c : Nat) (r z : Bool) (w : World) (hn : L.length = n) (h : Ss w q L) (hz : n ≤ 1048576) :
    Calls Try.prog 47 #[.slice q n c, .bool r, .bool z] w (UsesP (L.map fun a => ⟨a, r, z⟩) w) := by
  have HS := Lib.hid h
  have HN := Lib.hid hn
  have HE := Lib.hid (mark_step L (fun a => ⟨a, r, z⟩))
  obtain ⟨i0, hi0, hz0, hz1, hzb⟩ := info_parts use_parts
  have HI := Lib.hid (show i0.bytes * n ≤ 281474976710656 by rw [hzb]; omega)
  clear hn h hzb
  go_enter Try.func47, Try.ntmps47
  go_wp2_with (at_make; refine wpList_make_own w rfl (.const (.int .i64 0)) (.tmp 11) 25 rfl w.heap.size 43 i0 _ 3 Try.underlying25 hi0 hz0 hz1 .i64 .i64 (n : Int) n rfl rfl rfl HI.out (by unfold maxLen; omega) (Nat.le_refl _) ?_; intro w1 hown0 hg0)
  have HO := Lib.hid (show OwnU w.heap.size w1 (.slice (some ⟨w.heap.size, 0, none⟩) 0 n) [] from hown0)
  have HB0 := Lib.hid ((Below.refl w.heap.size w).grown hg0 (Nat.le_refl _) (fun k hk => by cases hk))
  clear hown0 hg0
  go_loopw [7, 15] (fun v i wr => ∃ k : Nat, k ≤ n ∧ i = .int .i64 k ∧ Hid (OwnU w.heap.size wr v ((L.take k).map fun a => ⟨a, r, z⟩)) ∧ Hid (Below w.heap.size w wr)) (fun _ i _ => n - (intOf i).toNat)
  case atStart => exact ⟨0, Nat.zero_le _, rfl, HO, HB0⟩
  case round =>
    obtain ⟨k, hk, rfl, HOw, HB⟩ := hrel
    by_cases hlt : k < n
    · have d1 : decide ((k : Int) < (n : Int)) = true := decide_eq_true (by omega)
      have hk0 : (0 : Int) ≤ (k : Int) := by omega
      have hkn : (k : Int) < (n : Int) := by omega
      obtain ⟨b, off, rfl, hbl, hu⟩ := ss_cell (HS.out.keep HB.out) k (by rw [HN.out]; exact hlt)
      obtain ⟨T, hT⟩ : ∃ T : ByteArray, T = ⟨(L.getD k []).toArray⟩ := ⟨_, rfl⟩
      rw [← hT] at hu
      have HNx := Lib.hid (HE.out k (by rw [HN.out]; exact hlt))
      have HO1 := Lib.hid (HOw.out.keep (bel1 wr (.cells #[.string T, .bool r, .bool z] 43)))
      have HC := Lib.hid (one_use wr _ T _ r z hT rfl)
      have HBa := Lib.hid (HB.out.alloc HB.out.size (.cells #[.string T, .bool r, .bool z] 43))
      have HLn := Lib.hid (show ((L.take k).map fun a => (⟨a, r, z⟩ : U)).length ≤ 1048576 by rw [List.length_map, List.length_take]; omega)
      clear hT
      go_wp2_with (at_builtin; refine wpList_append_u (w0 := w) rfl (.tmp 19) (.tmp 24) rfl _ _ rfl HO1.out HBa.out wr.heap.size ⟨L.getD k [], r, z⟩ 1 rfl HC.out HLn.out ?_; intro v' w3 hown1 hb3)
      go_roundw
      case rel => exact ⟨k + 1, by omega, by go_num, Lib.hid (by rw [HNx.out]; exact hown1), Lib.hid hb3⟩
      case measure => simp [intOf]; omega
    · have d1 : decide ((k : Int) < (n : Int)) = false := decide_eq_false (by omega)
      obtain rfl : k = n := by omega
      have HX := Lib.hid (show OwnU w.heap.size wr u7 (L.map fun a => ⟨a, r, z⟩) from by
        have h := HOw.out
        rw [List.take_of_length_le (by rw [HN.out]; omega)] at h
        exact h)
      go_wp2_with fail
      go_ret
      exact ⟨_, rfl, HX.out, HB.out⟩

end Go.Proofs.Ytonoelpmmjnpeaa.UseM
