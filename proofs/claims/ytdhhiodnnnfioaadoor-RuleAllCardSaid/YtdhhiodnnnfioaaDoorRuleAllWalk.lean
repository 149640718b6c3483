/-
  RuleAll: which rule any word is, or that it is none, is as the document says.
-/
import Derived.Test.YtdhhiodnnnfioaaDoorRuleLaw
import Derived.Test.YtdhhiodnnnfioaaDoorRefRules
namespace Go.Proofs.YtdhhiodnnnfioaaDoor.ruleAll
open Go.RowKit Kit TableMath Low StrT RuleT RefRule RuleM RuleL
set_option linter.unusedVariables false
set_option maxRecDepth 100000
-- ASKS: NumL.Gd MacT.Mx

def cutS (s : ByteArray) : ByteArray := if 200 < s.size then s.extract 0 200 else s
theorem cutS_size (s : ByteArray) : (cutS s).size ≤ 200 := by
  unfold cutS
  split
  · rw [ByteArray.size_extract]; omega
  · omega
theorem ref_is (T : ByteArray) (hz : T.size ≤ 1048000) {k : Int} {S : ByteArray} {a b : Bool} {m : Int} {ok : Bool} (h : RAns (ruleD T.data.toList) k S a b m ok) (w : World) (hg : Gw w) : Calls Tryd.prog 9 #[.string T] w (CRule k S a b m ok w) :=
  (parse_any T w hz).mono fun e w' hh => ⟨hh.1.trans h, hh.2⟩
set_option maxHeartbeats 2000000 in
theorem walk (s : ByteArray) (w : World) (hs : s.size ≤ 140737488351232) (hg1 : NumL.Gd w) (hg2 : MacT.Mx w) :
    Calls Tryd.prog 3 #[.string s] w fun e w' => e = .returned (.bool true) ∧ Below w.heap.size w w' := by
  have HG := Lib.hid (Gw.mk hg1 hg2)
  have C0 := Lib.hid (shown_any w HG.out)
  obtain ⟨T, hT⟩ : ∃ T, T = cutS s := ⟨_, rfl⟩
  have hTs : T.size ≤ 200 := by rw [hT]; exact cutS_size s
  have hcut : 200 < s.size → T = s.extract 0 200 := fun h => by rw [hT]; exact if_pos h
  have hsame : ¬ 200 < s.size → T = s := fun h => by rw [hT]; exact if_neg h
  clear hT hg1 hg2
  have b0 := build_no
  have hans : RAns (ruleD T.data.toList) 0 ⟨#[]⟩ false false 0 false ∨ ∃ k S a b m, RAns (ruleD T.data.toList) k S a b m true := by
    cases h : ruleD T.data.toList with
    | none => exact Or.inl (rans_none rfl)
    | some v => exact Or.inr ⟨_, _, _, _, _, rans_some rfl⟩
  go_enter Tryd.func3, Tryd.ntmps3
  go_wp2_with fail
  refine C0.out.mono ?_
  rintro e w1 ⟨rfl, hb1⟩
  have HB1 := Lib.hid hb1
  clear hb1 C0
  by_cases h200 : 200 < s.size
  all_goals
    first
      | have h200' : 200 < s.size := h200
        have s1 : ∀ W, (Instr.slice 9 (.string s) none (some (.int .i64 200)) none).run Tryd.prog W = .ok (.string T) W := fun W => by
          have h := run_slice_string_h (P := Tryd.prog) W 9 s Tryd.underlying9 .i64 200 (by omega) (by omega)
          rw [show (200 : Int).toNat = 200 from rfl, ← hcut h200] at h
          exact h
        have d1 : (200 : Int) < (s.size : Int) := by omega
        clear hcut hsame h200'
      | have e := hsame h200
        subst e
        have d1 : ¬ ((200 : Int) < (T.size : Int)) := by omega
        clear hcut hsame
    rcases hans with hans | ⟨k, S, a, b, m, hans⟩
    · have CA := Lib.hid (fun W hW => rule_is T (by omega) hans W hW)
      have CB := Lib.hid (fun W hW => ref_is T (by omega) hans W hW)
      clear hans
      go_wp2_with fail
      refine (CA.out _ (HG.out.keep HB1.out)).mono ?_
      rintro e w1 ⟨rfl, hb⟩
      have HB_1 := Lib.hid (HB1.out.trans (hb.mono HB1.out.size))
      clear hb HB1 CA
      obtain ⟨W2, hW⟩ : ∃ W, W = w1.alloc (.cells #[.int .u8 0, .string ⟨#[]⟩, .bool false, .bool false, .int .u64 0] 25) := ⟨_, rfl⟩
      obtain ⟨g_a, hg⟩ : ∃ k, k = w1.heap.size := ⟨_, rfl⟩
      obtain ⟨hr, hb⟩ := rat_new w1 0 ⟨#[]⟩ false false 0 W2 g_a hW hg
      have HB_2 := Lib.hid (HB_1.out.trans (hb.mono HB_1.out.size))
      have HRa_2 := Lib.hid hr
      clear hb hr HB_1
      go_upto_region 5 with fail
      rw [← hW, ← hg]
      clear hW hg
      go_wp2_with fail
      refine (CB.out _ (HG.out.keep HB_2.out)).mono ?_
      rintro e w3 ⟨rfl, hb⟩
      have HB_3 := Lib.hid (HB_2.out.trans (hb.mono HB_2.out.size))
      have HRa_3 := Lib.hid (HRa_2.out.keep hb)
      clear hb HB_2 HRa_2 CB
      obtain ⟨W4, hW⟩ : ∃ W, W = w3.alloc (.cells #[.int .u8 0, .string ⟨#[]⟩, .bool false, .bool false, .int .u64 0] 25) := ⟨_, rfl⟩
      obtain ⟨g_b, hg⟩ : ∃ k, k = w3.heap.size := ⟨_, rfl⟩
      obtain ⟨hr, hb⟩ := rat_new w3 0 ⟨#[]⟩ false false 0 W4 g_b hW hg
      have HB_4 := Lib.hid (HB_3.out.trans (hb.mono HB_3.out.size))
      have HRa_4 := Lib.hid (HRa_3.out.keep hb)
      have HRb_4 := Lib.hid hr
      clear hb hr HB_3 HRa_3
      go_upto_region 6 with fail
      rw [← hW, ← hg]
      clear hW hg
      obtain ⟨a0, a1, a2, a3, a4⟩ := HRa_4.out.cells
      obtain ⟨b0, b1, b2, b3, b4⟩ := HRb_4.out.cells
      go_wp2_with fail
      go_ret
      exact ⟨rfl, HB_4.out⟩
    · have CA := Lib.hid (fun W hW => rule_is T (by omega) hans W hW)
      have CB := Lib.hid (fun W hW => ref_is T (by omega) hans W hW)
      clear hans
      go_wp2_with fail
      refine (CA.out _ (HG.out.keep HB1.out)).mono ?_
      rintro e w1 ⟨rfl, hb⟩
      have HB_1 := Lib.hid (HB1.out.trans (hb.mono HB1.out.size))
      clear hb HB1 CA
      obtain ⟨W2, hW⟩ : ∃ W, W = w1.alloc (.cells #[.int .u8 k, .string S, .bool a, .bool b, .int .u64 m] 25) := ⟨_, rfl⟩
      obtain ⟨g_a, hg⟩ : ∃ k, k = w1.heap.size := ⟨_, rfl⟩
      obtain ⟨hr, hb⟩ := rat_new w1 k S a b m W2 g_a hW hg
      have HB_2 := Lib.hid (HB_1.out.trans (hb.mono HB_1.out.size))
      have HRa_2 := Lib.hid hr
      clear hb hr HB_1
      go_upto_region 5 with fail
      rw [← hW, ← hg]
      clear hW hg
      go_wp2_with fail
      refine (CB.out _ (HG.out.keep HB_2.out)).mono ?_
      rintro e w3 ⟨rfl, hb⟩
      have HB_3 := Lib.hid (HB_2.out.trans (hb.mono HB_2.out.size))
      have HRa_3 := Lib.hid (HRa_2.out.keep hb)
      clear hb HB_2 HRa_2 CB
      obtain ⟨W4, hW⟩ : ∃ W, W = w3.alloc (.cells #[.int .u8 k, .string S, .bool a, .bool b, .int .u64 m] 25) := ⟨_, rfl⟩
      obtain ⟨g_b, hg⟩ : ∃ k, k = w3.heap.size := ⟨_, rfl⟩
      obtain ⟨hr, hb⟩ := rat_new w3 k S a b m W4 g_b hW hg
      have HB_4 := Lib.hid (HB_3.out.trans (hb.mono HB_3.out.size))
      have HRa_4 := Lib.hid (HRa_3.out.keep hb)
      have HRb_4 := Lib.hid hr
      clear hb hr HB_3 HRa_3
      go_upto_region 6 with fail
      rw [← hW, ← hg]
      clear hW hg
      obtain ⟨a0, a1, a2, a3, a4⟩ := HRa_4.out.cells
      obtain ⟨b0, b1, b2, b3, b4⟩ := HRb_4.out.cells
      go_wp2_with fail
      go_ret
      exact ⟨rfl, HB_4.out⟩

end Go.Proofs.YtdhhiodnnnfioaaDoor.ruleAll
