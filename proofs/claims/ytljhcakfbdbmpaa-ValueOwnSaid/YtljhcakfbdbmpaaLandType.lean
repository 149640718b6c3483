/-
  The landed code of layer 9: a value's type and its size.
-/
import Derived.Test.YtljhcakfbdbmpaaRefVal3
namespace Go.Proofs.Ytljhcakfbdbmpaa.ValM
open Go.RowKit Kit StrT RowG BOrd ValT RefV
set_option linter.unusedVariables false
set_option maxRecDepth 100000

theorem kind_six (d : V) {k : Int} (h : k = (d.kind : Int)) : (k = 0 ∧ d.kind = 0) ∨ (k = 1 ∧ d.kind = 1) ∨ (k = 2 ∧ d.kind = 2) ∨ (k = 3 ∧ d.kind = 3) ∨ (k = 4 ∧ d.kind = 4) ∨ (k = 5 ∧ d.kind = 5) ∨ (6 ≤ k ∧ 6 ≤ d.kind) := by
  omega
set_option maxHeartbeats 4000000 in
theorem type_any (k : Int) (S : ByteArray) (ql : Option Addr) (nl cl : Nat) (qh : Option Addr) (nh ch : Nat) (qz : Option Addr) (nz cz : Nat) (d : V) (w : World) (H : VIn w k S ql nl cl qh nh ch qz nz cz d) :
    Calls Try.prog 11 #[.agg #[.int .u8 k, .string S, .slice ql nl cl, .slice qh nh ch, .slice qz nz cz]] w fun e w' => e = .returned (.string ⟨(typeL d).toArray⟩) ∧ Below w.heap.size w w' := by
  have HC := Lib.hid ((VCells.new w (.int .u8 k) (.string S) (.slice ql nl cl) (.slice qh nh ch) (.slice qz nz cz) w.heap.size rfl).keep (show Below (w.alloc (.cells #[.int .u8 k, .string S, .slice ql nl cl, .slice qh nh ch, .slice qz nz cz] 26)).heap.size _ ((w.alloc (.cells #[.int .u8 k, .string S, .slice ql nl cl, .slice qh nh ch, .slice qz nz cz] 26)).alloc (.cells #[.string ⟨#[110, 111, 110, 101]⟩, .string ⟨#[115, 116, 114, 105, 110, 103]⟩, .string ⟨#[108, 105, 115, 116]⟩, .string ⟨#[104, 97, 115, 104]⟩, .string ⟨#[115, 101, 116]⟩, .string ⟨#[122, 115, 101, 116]⟩] 46)) from (Below.refl _ _).alloc (Nat.le_refl _) _))
  have HB := Lib.hid (show Below w.heap.size w ((w.alloc (.cells #[.int .u8 k, .string S, .slice ql nl cl, .slice qh nh ch, .slice qz nz cz] 26)).alloc (.cells #[.string ⟨#[110, 111, 110, 101]⟩, .string ⟨#[115, 116, 114, 105, 110, 103]⟩, .string ⟨#[108, 105, 115, 116]⟩, .string ⟨#[104, 97, 115, 104]⟩, .string ⟨#[115, 101, 116]⟩, .string ⟨#[122, 115, 101, 116]⟩] 46)) from ((Below.refl _ _).alloc (Nat.le_refl _) _).alloc (by simp) _)
  have HA := Lib.hid (show ((w.alloc (.cells #[.int .u8 k, .string S, .slice ql nl cl, .slice qh nh ch, .slice qz nz cz] 26)).alloc (.cells #[.string ⟨#[110, 111, 110, 101]⟩, .string ⟨#[115, 116, 114, 105, 110, 103]⟩, .string ⟨#[108, 105, 115, 116]⟩, .string ⟨#[104, 97, 115, 104]⟩, .string ⟨#[115, 101, 116]⟩, .string ⟨#[122, 115, 101, 116]⟩] 46)).heap[w.heap.size + 1]? = some (.cells #[.string ⟨#[110, 111, 110, 101]⟩, .string ⟨#[115, 116, 114, 105, 110, 103]⟩, .string ⟨#[108, 105, 115, 116]⟩, .string ⟨#[104, 97, 115, 104]⟩, .string ⟨#[115, 101, 116]⟩, .string ⟨#[122, 115, 101, 116]⟩] 46) from heap_alloc2_new w _ _)
  have hw := kind_six d H.ek
  have hkb : k ≤ 255 := by have := H.ek; have := H.kb; omega
  clear H
  obtain ⟨-, -, c0, c1, c2, c3, c4⟩ := HC.out
  rcases hw with ⟨rfl, hk⟩ | ⟨rfl, hk⟩ | ⟨rfl, hk⟩ | ⟨rfl, hk⟩ | ⟨rfl, hk⟩ | ⟨rfl, hk⟩ | ⟨y1, y2⟩
  · have HF := Lib.hid (show typeL d = nNone by unfold typeL; rw [hk]; rfl)
    have a0 : ((w.alloc (.cells #[.int .u8 0, .string S, .slice ql nl cl, .slice qh nh ch, .slice qz nz cz] 26)).alloc (.cells #[.string ⟨#[110, 111, 110, 101]⟩, .string ⟨#[115, 116, 114, 105, 110, 103]⟩, .string ⟨#[108, 105, 115, 116]⟩, .string ⟨#[104, 97, 115, 104]⟩, .string ⟨#[115, 101, 116]⟩, .string ⟨#[122, 115, 101, 116]⟩] 46)).cell? ⟨w.heap.size + 1, 0, none⟩ = some (.string ⟨nNone.toArray⟩) := by
      rw [cell_of_row _ _ _ _ 46 _ HA.out]
      rfl
    clear hk
    go_enter Try.func11, Try.ntmps11
    go_wp2_with fail
    go_ret
    exact ⟨ret_str (by rw [HF.out]; try rfl), HB.out⟩
  · have HF := Lib.hid (show typeL d = nString by unfold typeL; rw [hk]; rfl)
    have a0 : ((w.alloc (.cells #[.int .u8 1, .string S, .slice ql nl cl, .slice qh nh ch, .slice qz nz cz] 26)).alloc (.cells #[.string ⟨#[110, 111, 110, 101]⟩, .string ⟨#[115, 116, 114, 105, 110, 103]⟩, .string ⟨#[108, 105, 115, 116]⟩, .string ⟨#[104, 97, 115, 104]⟩, .string ⟨#[115, 101, 116]⟩, .string ⟨#[122, 115, 101, 116]⟩] 46)).cell? ⟨w.heap.size + 1, 1, none⟩ = some (.string ⟨nString.toArray⟩) := by
      rw [cell_of_row _ _ _ _ 46 _ HA.out]
      rfl
    clear hk
    go_enter Try.func11, Try.ntmps11
    go_wp2_with fail
    go_ret
    exact ⟨ret_str (by rw [HF.out]; try rfl), HB.out⟩
  · have HF := Lib.hid (show typeL d = nList by unfold typeL; rw [hk]; rfl)
    have a0 : ((w.alloc (.cells #[.int .u8 2, .string S, .slice ql nl cl, .slice qh nh ch, .slice qz nz cz] 26)).alloc (.cells #[.string ⟨#[110, 111, 110, 101]⟩, .string ⟨#[115, 116, 114, 105, 110, 103]⟩, .string ⟨#[108, 105, 115, 116]⟩, .string ⟨#[104, 97, 115, 104]⟩, .string ⟨#[115, 101, 116]⟩, .string ⟨#[122, 115, 101, 116]⟩] 46)).cell? ⟨w.heap.size + 1, 2, none⟩ = some (.string ⟨nList.toArray⟩) := by
      rw [cell_of_row _ _ _ _ 46 _ HA.out]
      rfl
    clear hk
    go_enter Try.func11, Try.ntmps11
    go_wp2_with fail
    go_ret
    exact ⟨ret_str (by rw [HF.out]; try rfl), HB.out⟩
  · have HF := Lib.hid (show typeL d = nHash by unfold typeL; rw [hk]; rfl)
    have a0 : ((w.alloc (.cells #[.int .u8 3, .string S, .slice ql nl cl, .slice qh nh ch, .slice qz nz cz] 26)).alloc (.cells #[.string ⟨#[110, 111, 110, 101]⟩, .string ⟨#[115, 116, 114, 105, 110, 103]⟩, .string ⟨#[108, 105, 115, 116]⟩, .string ⟨#[104, 97, 115, 104]⟩, .string ⟨#[115, 101, 116]⟩, .string ⟨#[122, 115, 101, 116]⟩] 46)).cell? ⟨w.heap.size + 1, 3, none⟩ = some (.string ⟨nHash.toArray⟩) := by
      rw [cell_of_row _ _ _ _ 46 _ HA.out]
      rfl
    clear hk
    go_enter Try.func11, Try.ntmps11
    go_wp2_with fail
    go_ret
    exact ⟨ret_str (by rw [HF.out]; try rfl), HB.out⟩
  · have HF := Lib.hid (show typeL d = nSetT by unfold typeL; rw [hk]; rfl)
    have a0 : ((w.alloc (.cells #[.int .u8 4, .string S, .slice ql nl cl, .slice qh nh ch, .slice qz nz cz] 26)).alloc (.cells #[.string ⟨#[110, 111, 110, 101]⟩, .string ⟨#[115, 116, 114, 105, 110, 103]⟩, .string ⟨#[108, 105, 115, 116]⟩, .string ⟨#[104, 97, 115, 104]⟩, .string ⟨#[115, 101, 116]⟩, .string ⟨#[122, 115, 101, 116]⟩] 46)).cell? ⟨w.heap.size + 1, 4, none⟩ = some (.string ⟨nSetT.toArray⟩) := by
      rw [cell_of_row _ _ _ _ 46 _ HA.out]
      rfl
    clear hk
    go_enter Try.func11, Try.ntmps11
    go_wp2_with fail
    go_ret
    exact ⟨ret_str (by rw [HF.out]; try rfl), HB.out⟩
  · have HF := Lib.hid (show typeL d = nZset by unfold typeL; rw [hk]; rfl)
    have a0 : ((w.alloc (.cells #[.int .u8 5, .string S, .slice ql nl cl, .slice qh nh ch, .slice qz nz cz] 26)).alloc (.cells #[.string ⟨#[110, 111, 110, 101]⟩, .string ⟨#[115, 116, 114, 105, 110, 103]⟩, .string ⟨#[108, 105, 115, 116]⟩, .string ⟨#[104, 97, 115, 104]⟩, .string ⟨#[115, 101, 116]⟩, .string ⟨#[122, 115, 101, 116]⟩] 46)).cell? ⟨w.heap.size + 1, 5, none⟩ = some (.string ⟨nZset.toArray⟩) := by
      rw [cell_of_row _ _ _ _ 46 _ HA.out]
      rfl
    clear hk
    go_enter Try.func11, Try.ntmps11
    go_wp2_with fail
    go_ret
    exact ⟨ret_str (by rw [HF.out]; try rfl), HB.out⟩
  · have HF := Lib.hid (show typeL d = nNone by unfold typeL; rw [if_neg (by omega), if_neg (by omega), if_neg (by omega), if_neg (by omega), if_neg (by omega)])
    have a0 : ((w.alloc (.cells #[.int .u8 k, .string S, .slice ql nl cl, .slice qh nh ch, .slice qz nz cz] 26)).alloc (.cells #[.string ⟨#[110, 111, 110, 101]⟩, .string ⟨#[115, 116, 114, 105, 110, 103]⟩, .string ⟨#[108, 105, 115, 116]⟩, .string ⟨#[104, 97, 115, 104]⟩, .string ⟨#[115, 101, 116]⟩, .string ⟨#[122, 115, 101, 116]⟩] 46)).cell? ⟨w.heap.size + 1, 0, none⟩ = some (.string ⟨nNone.toArray⟩) := by
      rw [cell_of_row _ _ _ _ 46 _ HA.out]
      rfl
    have t1 : decide (k < 6) = false := decide_eq_false (by omega)
    clear y2
    go_enter Try.func11, Try.ntmps11
    go_wp2_with fail
    go_ret
    exact ⟨ret_str (by rw [HF.out]; try rfl), HB.out⟩

set_option maxHeartbeats 4000000 in
theorem size_any (k : Int) (S : ByteArray) (ql : Option Addr) (nl cl : Nat) (qh : Option Addr) (nh ch : Nat) (qz : Option Addr) (nz cz : Nat) (d : V) (w : World) (H : VIn w k S ql nl cl qh nh ch qz nz cz d) :
    Calls Try.prog 13 #[.agg #[.int .u8 k, .string S, .slice ql nl cl, .slice qh nh ch, .slice qz nz cz]] w fun e w' => e = .returned (.int .i64 (sizeN d : Int)) ∧ Below w.heap.size w w' := by
  have HV := Lib.hid H
  have HC := Lib.hid (VCells.new w (.int .u8 k) (.string S) (.slice ql nl cl) (.slice qh nh ch) (.slice qz nz cz) w.heap.size rfl)
  have HB := Lib.hid (show Below w.heap.size w (w.alloc (.cells #[.int .u8 k, .string S, .slice ql nl cl, .slice qh nh ch, .slice qz nz cz] 26)) from (Below.refl _ _).alloc (Nat.le_refl _) _)
  have hfl := H.fl
  have hfh := H.fh
  have hfz := H.fz
  have hw := kind_ways d H.ek
  clear H
  obtain ⟨-, -, c0, c1, c2, c3, c4⟩ := HC.out
  rcases hw with ⟨rfl, hk⟩ | ⟨rfl, hk⟩ | ⟨rfl, hk⟩ | ⟨rfl, hk⟩ | ⟨rfl, hk⟩ | ⟨x1, x2, x3, x4, x5, y1, y2, y3, y4, y5⟩
  · have HF := Lib.hid (show sizeN d = 1 by unfold sizeN; rw [hk]; rfl)
    clear hk
    go_enter Try.func13, Try.ntmps13
    go_wp2_with fail
    go_ret
    exact ⟨ret_int (by rw [HF.out]; try rfl), HB.out⟩
  · have HF := Lib.hid (show sizeN d = nl by unfold sizeN; rw [hk]; exact HV.out.ll)
    clear hk
    go_enter Try.func13, Try.ntmps13
    go_wp2_with fail
    go_ret
    exact ⟨ret_int (by rw [HF.out]; try rfl), HB.out⟩
  · have HF := Lib.hid (show sizeN d = nh by unfold sizeN; rw [hk]; exact HV.out.lh)
    clear hk
    go_enter Try.func13, Try.ntmps13
    go_wp2_with fail
    go_ret
    exact ⟨ret_int (by rw [HF.out]; try rfl), HB.out⟩
  · have HF := Lib.hid (show sizeN d = nl by unfold sizeN; rw [hk]; exact HV.out.ll)
    clear hk
    go_enter Try.func13, Try.ntmps13
    go_wp2_with fail
    go_ret
    exact ⟨ret_int (by rw [HF.out]; try rfl), HB.out⟩
  · have HF := Lib.hid (show sizeN d = nz by unfold sizeN; rw [hk]; exact HV.out.lz)
    clear hk
    go_enter Try.func13, Try.ntmps13
    go_wp2_with fail
    go_ret
    exact ⟨ret_int (by rw [HF.out]; try rfl), HB.out⟩
  · have HF := Lib.hid (show sizeN d = 0 by unfold sizeN; rw [if_neg y1, if_neg (by omega), if_neg y3, if_neg y5])
    clear y1 y2 y3 y4 y5
    go_enter Try.func13, Try.ntmps13
    go_wp2_with fail
    go_ret
    exact ⟨ret_int (by rw [HF.out]; rfl), HB.out⟩


end Go.Proofs.Ytljhcakfbdbmpaa.ValM
