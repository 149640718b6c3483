/-
  How the program tells one line of a reply: reply.flat and reply.line.
-/
import Derived.Test.YtodpocciimbjbaaDoorReplyRows
namespace Go.Proofs.YtodpocciimbjbaaDoor.ReplyM
open Go.RowKit Kit BytesIn ReplyMath ReplyT
set_option linter.unusedVariables false
set_option maxRecDepth 100000

/-- So far told as blanks, the rest as it was. -/
def mixF (k : Nat) (l : List UInt8) : List UInt8 := flat (l.take k) ++ l.drop k
theorem mixF_length (k : Nat) (l : List UInt8) : (mixF k l).length = l.length := by simp [mixF, flat]; omega
theorem mixF_at (k : Nat) (l : List UInt8) (h : k < l.length) : (mixF k l)[k]'(by rw [mixF_length]; exact h) = l[k] := by
  unfold mixF flat
  rw [List.getElem_append_right (by simp; omega)]
  simp [Nat.min_eq_left (Nat.le_of_lt h)]
theorem mixF_set (k : Nat) (l : List UInt8) (h : k < l.length) : (mixF k l).set k (fl l[k]) = mixF (k + 1) l := by
  unfold mixF flat
  have e : (List.map fl (List.take k l)).length = k := by simp; omega
  rw [List.set_append_right _ _ (by omega), e, Nat.sub_self, List.drop_eq_getElem_cons h, List.set_cons_zero, List.take_succ_eq_append_getElem h, List.map_append]
  simp
theorem mixF_same (k : Nat) (l : List UInt8) (h : k < l.length) (hn : fl l[k] = l[k]) : mixF (k + 1) l = mixF k l := by
  rw [← mixF_set k l h, hn, ← mixF_at k l h, List.set_getElem_self]
theorem mixF_all (k : Nat) (l : List UInt8) (h : ¬ k < l.length) : mixF k l = flat l := by
  unfold mixF
  rw [List.take_of_length_le (by omega), List.drop_eq_nil_of_le (by omega), List.append_nil]
theorem fl_13 : fl 13 = 32 := rfl
theorem fl_10 : fl 10 = 32 := rfl
theorem fl_not {c : UInt8} (h : c ≠ 13) (h' : c ≠ 10) : fl c = c := by unfold fl; rw [if_neg (by simp [h, h'])]

set_option maxHeartbeats 2000000 in
theorem flat_any (s : ByteArray) (w : World) (hz : s.size ≤ 1048576) :
    Calls Tryd.prog 46 #[.string s] w fun e w' => e = .returned (.string ⟨(flat s.data.toList).toArray⟩) ∧ Below w.heap.size w w' := by
  have hconv := fun W T => run_bytes W T
  have HL := Lib.hid (show s.data.toList.length = s.size by simp)
  go_enter Tryd.func46, Tryd.ntmps46
  go_wp2_with fail
  go_loopw [10] (fun i wr => ∃ k : Nat, k ≤ s.size ∧ i = .int .i64 k ∧ Below w.heap.size w wr ∧ Row8 wr w.heap.size (mixF k s.data.toList)) (fun i _ => s.size - (intOf i).toNat)
  case atStart => exact ⟨0, Nat.zero_le _, rfl, bytesWorld_below _ _ _, bytesWorld_row _ _ _⟩
  case round =>
    obtain ⟨k, hk, rfl, hb, hrow⟩ := hrel
    clear hconv
    have HR := Lib.hid hrow
    clear hrow
    by_cases hlt : k < s.size
    · have hlt' : k < s.data.toList.length := by rw [HL.out]; exact hlt
      have hltm : k < (mixF k s.data.toList).length := by rw [mixF_length]; exact hlt'
      have hcell := HR.out.at_ k hltm
      rw [mixF_at k _ hlt'] at hcell
      have hfrz := HR.out.frz k hltm
      obtain ⟨c, hc⟩ : ∃ c, c = s.data.toList[k] := ⟨_, rfl⟩
      rw [← hc] at hcell
      have HC := Lib.hid hc
      clear hc
      by_cases h13 : c = 13
      · have t1 : ((c.toNat : Int) == 13) = true := by rw [h13]; rfl
        have HF := Lib.hid (show fl c = 32 by rw [h13]; rfl)
        clear h13
        go_wp2_with fail
        go_roundw
        case rel =>
          refine ⟨k + 1, by omega, by go_num, hb.setCell (Nat.le_refl _) _, ?_⟩
          rw [← mixF_set k _ hlt', ← HC.out, HF.out]
          exact HR.out.set k hltm 32
        case measure => simp [intOf]; omega
      · have t1 : ((c.toNat : Int) == 13) = false := by have : c.toNat ≠ 13 := fun h => h13 (UInt8.toNat_inj.1 h); rw [beq_eq_false_iff_ne]; omega
        by_cases h10 : c = 10
        · have t2 : ((c.toNat : Int) == 10) = true := by rw [h10]; rfl
          have HF := Lib.hid (show fl c = 32 by rw [h10]; rfl)
          clear h10 h13
          go_wp2_with fail
          go_roundw
          case rel =>
            refine ⟨k + 1, by omega, by go_num, hb.setCell (Nat.le_refl _) _, ?_⟩
            rw [← mixF_set k _ hlt', ← HC.out, HF.out]
            exact HR.out.set k hltm 32
          case measure => simp [intOf]; omega
        · have t2 : ((c.toNat : Int) == 10) = false := by have : c.toNat ≠ 10 := fun h => h10 (UInt8.toNat_inj.1 h); rw [beq_eq_false_iff_ne]; omega
          have HF := Lib.hid (fl_not h13 h10)
          clear h10 h13
          go_wp2_with fail
          go_roundw
          case rel => exact ⟨k + 1, by omega, by go_num, hb, by rw [mixF_same k _ hlt' (by rw [← HC.out, HF.out])]; exact HR.out⟩
          case measure => simp [intOf]; omega
    · have hrow := HR.out
      rw [mixF_all k _ (by rw [HL.out]; exact hlt)] at hrow
      have hback := fun cap => run_row_string (P := Tryd.prog) wr 29 5 9 Tryd.underlying29 Tryd.underlying5 Tryd.underlying9 w.heap.size _ hrow s.size cap (by rw [flat, List.length_map, HL.out])
      clear hrow
      go_wp2_with fail
      go_ret
      exact ⟨rfl, hb⟩

theorem lit1_at (w : World) (g : Nat) (c : UInt8) (v : Int) (h : v = (c.toNat : Int)) (hg : w.heap.size = g) : Bs (w.alloc (.cells #[.int .u8 v] 5)) (some ⟨g, 0, none⟩) [c] := hg ▸ lit1_bs w c v h
theorem crlf_size : (⟨#[13, 10]⟩ : ByteArray).size = 2 := rfl
set_option maxHeartbeats 2000000 in
theorem line_own (k : UInt8) (s : ByteArray) (w : World) (hz : s.size ≤ 1048576) :
    Calls Tryd.prog 45 #[.int .u8 (k.toNat : Int), .string s] w fun e w' => ∃ v, e = .returned v ∧ Own w.heap.size w' v (k :: (s.data.toList ++ [13, 10])) ∧ Below w.heap.size w w' := by
  obtain ⟨i0, hi0, hz0, hz1, hzb⟩ := info_parts u8_parts
  have hmk := run_make (P := Tryd.prog) w 29 5 i0 (.int .u8 0) Tryd.underlying29 hi0 hz0 .i64 .i64 0 (1 + (s.size : Int) + 2) (by omega) (by omega) (by rw [hzb]; omega) (by omega)
  rw [hz1, show (1 + (s.size : Int) + 2).toNat * 1 = s.size + 3 by omega, show (1 + (s.size : Int) + 2).toNat = s.size + 3 by omega] at hmk
  have HO := Lib.hid (show Own w.heap.size (w.alloc (.cells (madeCells (Value.int .u8 0).cells (s.size + 3)) 5)) (.slice (some ⟨w.heap.size, 0, none⟩) 0 (s.size + 3)) [] from
    World.ownsRow_made w _ (s.size + 3) (Nat.le_refl _) (by unfold maxLen; omega) (by rw [size_madeCells, Nat.mul_one]))
  have HB := Lib.hid (below1 w (.cells (madeCells (Value.int .u8 0).cells (s.size + 3)) 5))
  have HSL := Lib.hid (str_len s)
  have HE := Lib.hid (show [k] ++ s.data.toList ++ (⟨#[13, 10]⟩ : ByteArray).data.toList = k :: (s.data.toList ++ [13, 10]) by simp)
  go_enter Tryd.func45, Tryd.ntmps45
  go_wp2_with (at_builtin; first
    | (refine wpList_append_bs (w0 := w) rfl (.tmp 11) (.tmp 13) rfl _ [] rfl (HO.out.al _) (HB.out.alloc (by simp) _) (some ⟨_, 0, none⟩) [k] 1 1 rfl rfl (lit1_at _ _ _ _ rfl (by simp)) (fun h => by cases h) (by simp) [k] rfl ?_; intro v1 w1 ho1 hb1)
    | (refine wpList_append_str (w0 := w) rfl (.tmp 15) (.tmp 16) rfl v1 [k] rfl ho1 hb1 s rfl (by simp; omega) ?_; intro v2 w2 ho2 hb2)
    | (refine wpList_append_str (w0 := w) rfl (.tmp 18) _ rfl v2 _ rfl ho2 hb2 ⟨#[13, 10]⟩ rfl (by rw [List.length_append, HSL.out, crlf_size]; simp; omega) ?_; intro v3 w3 ho3 hb3))
  rw [HE.out] at ho3
  go_ret
  exact ⟨_, rfl, ho3, hb3⟩

end Go.Proofs.YtodpocciimbjbaaDoor.ReplyM
