/-
  What the statements of layer 5 share: the head, a text cut short, texts cut short, replies of each kind.
-/
import Derived.Test.YteojijocoamohaaDoorReplyCode
import Derived.Laws.Slices
import Derived.Laws.Strings2
import Derived.Lib.Split
import Derived.Deep.DeepCutAuto
namespace Go.Proofs.YteojijocoamohaaDoor.ReplyL
open Go.RowKit Kit BytesIn ReplyMath ReplyT ReplyM NumMath NumL
set_option linter.unusedVariables false
set_option maxRecDepth 100000

theorem ok_string {w : World} {v : Value} {l : List UInt8} (h : Ok w v l) (n : Nat) (hn : l.length = n) : ∃ p c, v = .slice p n c ∧ (convert 23 9 (.slice p n c)).run Tryd.prog w = .ok (.string ⟨l.toArray⟩) w := by
  subst hn
  obtain ⟨p, c, hv, hB, -⟩ := h
  exact ⟨p, c, hv, bs_string hB _ c rfl⟩

theorem short_any (s : ByteArray) (w : World) (hz : s.size ≤ 140737488351232) :
    Calls Tryd.prog 9 #[.string s] w fun e w' => e = .returned (.string ⟨(s.data.toList.take 100).toArray⟩) ∧ w = w' := by
  by_cases h : 100 < s.size
  · have d1 : decide (100 < (s.size : Int)) = true := decide_eq_true (by omega)
    obtain ⟨T, hT⟩ : ∃ T, T = s.extract 0 100 := ⟨_, rfl⟩
    have s1 : ∀ W, (Instr.slice 9 (.string s) none (some (.int .i64 100)) none).run Tryd.prog W = .ok (.string T) W := fun W => by
      have h := run_slice_string_h (P := Tryd.prog) W 9 s Tryd.underlying9 .i64 100 (by omega) (by omega)
      rw [show (100 : Int).toNat = 100 from rfl, ← hT] at h
      exact h
    have HT := Lib.hid (show T = ⟨(s.data.toList.take 100).toArray⟩ by rw [hT]; exact same_bytes (by rw [Lib.extract_from_zero]))
    clear hT
    go_enter Tryd.func9, Tryd.ntmps9
    go_wp2_with fail
    go_ret
    exact ⟨ret_str HT.out, rfl⟩
  · have d1 : decide (100 < (s.size : Int)) = false := decide_eq_false (by omega)
    have HT := Lib.hid (show s = ⟨(s.data.toList.take 100).toArray⟩ from same_bytes (by rw [List.take_of_length_le (by rw [str_len]; omega)]))
    go_enter Tryd.func9, Tryd.ntmps9
    go_wp2_with fail
    go_ret
    exact ⟨ret_str HT.out, rfl⟩

set_option maxHeartbeats 1000000 in
theorem shown_any (w : World) (hg : Gt w) : Calls Tryd.prog 8 #[] w fun e w' => e = .returned (.bool true) ∧ Below w.heap.size w w' := by
  have C1 := Lib.hid (bulk_any ⟨#[97, 98]⟩ w (by decide) hg)
  have HG := Lib.hid hg
  have e1 : bulk [97, 98] = [36, 50, 13, 10, 97, 98, 13, 10] := by decide +kernel
  have e2 : array [int 5, null] = [42, 50, 13, 10, 58, 53, 13, 10, 36, 45, 49, 13, 10] := by decide +kernel
  rw [show (⟨#[97, 98]⟩ : ByteArray).data.toList = [97, 98] from rfl, e1] at C1
  have HE2 := Lib.hid e2
  clear e1 e2 hg
  go_enter Tryd.func8, Tryd.ntmps8
  go_wp2_with fail
  refine C1.out.mono ?_
  rintro e w1 ⟨x, rfl, hx, hb1⟩
  have HB1 := Lib.hid hb1
  obtain ⟨p, c, rfl, hcv⟩ := ok_string hx.ok 8 rfl
  clear hx hb1
  have C2 := Lib.hid (int_any 5 w1 (by decide) (by decide) (HG.out.keep HB1.out))
  go_wp2_with fail
  refine C2.out.mono ?_
  rintro e w2 ⟨y, rfl, hy, hb2⟩
  obtain ⟨B5, hB5⟩ : ∃ B5, B5 = int 5 := ⟨_, rfl⟩
  have HBl := Lib.hid (show B5.length ≤ 100 by rw [hB5]; decide +kernel)
  rw [← hB5] at hy HE2
  clear hB5 C2
  have HB2 := Lib.hid (HB1.out.trans (hb2.mono HB1.out.size))
  obtain ⟨py, cy, rfl⟩ := hy.form
  have HY := Lib.hid hy
  clear hy hb2 hcv
  obtain ⟨ny, hny⟩ : ∃ ny, ny = B5.length := ⟨_, rfl⟩
  have HNy := Lib.hid hny
  rw [← hny] at HY ⊢
  clear hny
  have C3 := Lib.hid (null_any w2 (HG.out.keep HB2.out))
  go_wp2_with fail
  refine C3.out.mono ?_
  rintro e w3 ⟨z, rfl, hz, hb3⟩
  obtain ⟨pz, cz, rfl⟩ := hz.form
  rw [show null.length = 5 from rfl] at hz ⊢
  have HB3 := Lib.hid (HB2.out.trans (hb3.mono HB2.out.size))
  have HR := Lib.hid (show Rs (w3.alloc (.cells #[.slice py ny cy, .slice pz 5 cz] 23)) (some ⟨w3.heap.size, 0, none⟩) [B5, null] from fun _ => ⟨_, 0, rfl, by simp, fun j hj => by
    have hh := laid_new w3 [.slice py ny cy, .slice pz 5 cz]
    have k1 := (HY.out.ok.keep hb3).keep (below1 w3 (.cells #[.slice py ny cy, .slice pz 5 cz] 23))
    have k2 := hz.ok.keep (below1 w3 (.cells #[.slice py ny cy, .slice pz 5 cz] 23))
    unfold Laid at hh
    match j, hj with
    | 0, _ => exact ⟨_, by rw [cell_of_row _ _ _ _ _ _ hh]; rfl, k1⟩
    | 1, _ => exact ⟨_, by rw [cell_of_row _ _ _ _ _ _ hh]; rfl, k2⟩
    | j + 2, hj => simp at hj; omega⟩)
  clear hz hb3
  have C4 := Lib.hid (array_any (some ⟨w3.heap.size, 0, none⟩) [B5, null] 2 2 _ rfl HR.out (Nat.le_refl _) (by decide) (fun h => by cases h) (by decide) (by have := HBl.out; simp [null]; omega) (HG.out.keep (HB3.out.alloc HB3.out.size (.cells #[.slice py ny cy, .slice pz 5 cz] 23))))
  rw [HE2.out] at C4
  go_wp2_with fail
  refine C4.out.mono ?_
  rintro e w4 ⟨u, rfl, hu, hb4⟩
  have HB4 := Lib.hid ((HB3.out.alloc HB3.out.size (.cells #[.slice py ny cy, .slice pz 5 cz] 23)).trans (hb4.mono (by have := HB3.out.size; simp; omega)))
  obtain ⟨pu, cu, rfl, hcu⟩ := ok_string hu.ok 13 rfl
  clear hu hb4
  go_wp2_with fail
  go_ret
  exact ⟨rfl, HB4.out⟩

end Go.Proofs.YteojijocoamohaaDoor.ReplyL
