/-
  'tipstafflaw03.MacRecords': for all passwords, salts, numbers and texts it answers true.
-/
import Derived.Test.YtjcohlpjlifolaaDoorRefRecord
import Derived.Deep.DeepCutAuto
namespace Go.Proofs.YtjcohlpjlifolaaDoor.macRecords
open Go.RowKit Kit ShaMath ShaT MacM MacT RefM HexMath NumMath
open Go.Sort (grow)
set_option linter.unusedVariables false
set_option maxRecDepth 100000
-- ASKS: ShaT.Tabs NumL.Gd MacT.Mx
-- NIL

/-- What both records come to. -/
theorem both (P : ByteArray) (p : Option Addr) (S : List UInt8) (cap : Nat) (x : Int) (hz : P.size ≤ 40) (hnil : p = none → cap = 0) :
    ∃ (R : ByteArray) (o : Bool), (∀ W, Bs W p S → Tabs W → NumL.Gd W → Calls Tryd.prog 18 #[.string P, .slice p S.length cap, .int .i64 x] W fun e w' => e = .returned (.tuple #[.string R, .bool o]) ∧ Below W.heap.size W w')
      ∧ (∀ W, Bs W p S → Calls Tryd.prog 19 #[.string P, .slice p S.length cap, .int .i64 x] W fun e w' => e = .returned (.tuple #[.string R, .bool o]) ∧ Below W.heap.size W w')
      ∧ R.size ≤ 1048576 ∧ rightB R.data.toList = o ∧ (o = true → checkB R.data.toList P.data.toList = true) := by
  by_cases h : 1 ≤ x ∧ x ≤ 64
  · obtain ⟨r, rfl⟩ : ∃ r : Nat, x = (r : Int) := ⟨x.toNat, by omega⟩
    by_cases h32 : S.length ≤ 32
    · have hdl := derL_length P.data.toList S (r : Int)
      refine ⟨⟨(recL (r : Int) S (derL P.data.toList S (r : Int))).toArray⟩, true, fun W hb ht hn => record_yes P p S S.length cap r W (by omega) (by omega) (by omega) rfl hb h32 ht hn, fun W hb => rrecord_yes P p S S.length cap r W (by omega) (by omega) (by omega) rfl hb h32 hnil, ?_, right_recL ⟨h.1, h.2, h32, hdl⟩, fun _ => ?_⟩
      · rw [size_bytes]
        have h2 := itoa_small (r : Int) h
        unfold recL
        simp only [List.length_append, List.length_cons, hexL_length]
        omega
      · show checkB (recL (r : Int) S (derL P.data.toList S (r : Int))) P.data.toList = true
        rw [check_recL ⟨h.1, h.2, h32, hdl⟩]
        exact decide_eq_true rfl
    · refine ⟨⟨#[]⟩, false, fun W hb ht hn => record_salt P p S.length cap (r : Int) W h (by omega), fun W hb => rrecord_no P p S.length cap (r : Int) W (fun e => h32 e.2), by decide, right_none (recOf_no rfl), fun e => by cases e⟩
  · refine ⟨⟨#[]⟩, false, fun W hb ht hn => record_fit P p S.length cap x W h, fun W hb => rrecord_no P p S.length cap x W (fun e => h e.1), by decide, right_none (recOf_no rfl), fun e => by cases e⟩

set_option maxHeartbeats 2000000 in
theorem walk (s : ByteArray) (p : Option Addr) (l : List UInt8) (cap : Nat) (n : Int) (t : ByteArray) (w : World) (hz : s.size ≤ 140737488351232) (hb : Bs w p l) (hl : l.length ≤ 140737488351232) (hlc : l.length ≤ cap) (hc : cap ≤ 9223372036854775807) (hnil : p = none → cap = 0)
    (n0 : -9223372036854775808 ≤ n) (n1 : n ≤ 9223372036854775807) (zt : t.size ≤ 140737488351232) (hg1 : Tabs w) (hg2 : NumL.Gd w) (hg3 : Mx w) :
    Calls Tryd.prog 4 #[.string s, .slice p l.length cap, .agg #[.int .i64 n, .string t]] w fun e w' => e = .returned (.bool true) ∧ Below w.heap.size w w' := by
  have HG := Lib.hid (All.mk hg1 hg2 hg3)
  have HB := Lib.hid hb
  clear hg1 hg2 hg3 hb
  go_enter Tryd.func4, Tryd.ntmps4
  have hconv := fun W => Lib.run_convert_string_bytes (P := Tryd.prog) W 9 22 5 s Tryd.underlying9 Tryd.underlying22 Tryd.underlying5
  go_wp2_with fail
  have hb0 := below1 w (.cells #[.int .i64 n, .string t] 31)
  have k0 := Lib.hid (show (w.alloc (.cells #[.int .i64 n, .string t] 31)).heap[w.heap.size]? = some (.cells #[.int .i64 n, .string t] 31 (0, 0)) from heap_alloc_last _ _)
  refine (shown_any _ (HG.out.keep hb0)).mono ?_
  rintro e w1 ⟨rfl, hb1⟩
  have HB1 := Lib.hid (hb0.trans (hb1.mono hb0.size))
  have hlt1 : w.heap.size < w1.heap.size := by have := hb1.size; simp at this; omega
  have K0 := Lib.hid (show w1.heap[w.heap.size]? = some (.cells #[.int .i64 n, .string t] 31 (0, 0)) by rw [hb1.block w.heap.size (by simp)]; exact k0.out)
  clear hb1 k0 hb0
  have HBB := Lib.hid (bytesWorld_below w1 5 s)
  have HF := Lib.hid (few_any (some ⟨w1.heap.size, 0, none⟩) s.data.toList s.size (grownCap w1 s.size 0 5) (Lib.bytesWorld w1 5 s) (by simp) (bytes_bs w1 s) (grownCap_ge _ _ _ _) (by have := grownCap_le_maxLen w1 s.size 0 5 (by unfold maxLen; omega); unfold maxLen at this; omega))
  have hback := bs_string ((bytes_bs w1 s).take 40) (grownCap w1 s.size 0 5)
  obtain ⟨PL, hPL⟩ : ∃ PL, PL = s.data.toList.take 40 := ⟨_, rfl⟩
  have hpl : PL.length ≤ 40 := by rw [hPL, List.length_take]; omega
  rw [← hPL] at hback HF
  obtain ⟨P, hP⟩ : ∃ P : ByteArray, P = ⟨PL.toArray⟩ := ⟨_, rfl⟩
  rw [← hP] at hback
  have hzP : P.size ≤ 40 := by rw [hP, size_bytes]; exact hpl
  clear hP hPL
  go_wp2_with fail
  refine HF.out.mono ?_
  rintro e w' ⟨rfl, rfl⟩
  have HB2 := Lib.hid (HB1.out.trans (HBB.out.mono HB1.out.size))
  have K2 := Lib.hid ((HBB.out.block w.heap.size hlt1).trans K0.out)
  clear HBB HF HB1 K0 hlt1 hconv
  generalize Lib.bytesWorld w1 5 s = w2 at HB2 K2 hback ⊢
  go_wp2_with fail
  clear hback
  refine (few_any p l l.length cap _ rfl (HB.out.keep HB2.out) hlc hc).mono ?_
  rintro e w' ⟨rfl, rfl⟩
  have hs40 : (l.take 40).length ≤ 40 := by rw [List.length_take]; omega
  have hsc : (l.take 40).length ≤ cap := by rw [List.length_take]; omega
  have HS2 := Lib.hid ((HB.out.keep HB2.out).take 40)
  obtain ⟨S, hS⟩ : ∃ S, S = l.take 40 := ⟨_, rfl⟩
  rw [← hS] at hs40 hsc HS2 ⊢
  clear hS HB
  have cn : w2.cell? ⟨w.heap.size, 0, none⟩ = some (.int .i64 n) := by rw [cell_of_row w2 w.heap.size 0 _ _ _ K2.out]; rfl
  have ct : w2.cell? ⟨w.heap.size, 1, none⟩ = some (.string t) := by rw [cell_of_row w2 w.heap.size 1 _ _ _ K2.out]; rfl
  clear K2
  go_upto_region 5 with fail
  clear cn
  go_cut [28] (fun v wx => ∃ b : Bool, v = .bool b ∧ (b = true → 4 < n ∧ n ≤ 64) ∧ w2 = wx)
  case first =>
    by_cases h5 : 4 < n
    · have d1 : decide (4 < n) = true := decide_eq_true h5
      by_cases h64 : n ≤ 64
      · have d2 : decide (n ≤ 64) = true := decide_eq_true h64
        go_wp2_with fail
        go_meet
        exact ⟨true, rfl, fun _ => ⟨h5, h64⟩, rfl⟩
      · have d2 : decide (n ≤ 64) = false := decide_eq_false h64
        go_wp2_with fail
        go_meet
        exact ⟨false, rfl, (fun h => by cases h), rfl⟩
    · have d1 : decide (4 < n) = false := decide_eq_false h5
      go_wp2_with fail
      go_meet
      exact ⟨false, rfl, (fun h => by cases h), rfl⟩
  case rest =>
    obtain ⟨b, rfl, hbr, rfl⟩ := hcut
    go_upto_if 28 with fail
    go_cut [8] (fun v wx => ∃ x : Int, v = .int .i64 x ∧ w2 = wx)
    case first =>
      cases b
      · go_wp2_with fail
        go_meet
        exact ⟨_, rfl, rfl⟩
      · have h5 := (hbr rfl).1
        have h64 := (hbr rfl).2
        clear hbr
        go_wp2_with fail
        go_meet
        exact ⟨_, rfl, rfl⟩
    case rest =>
      obtain ⟨x, rfl, rfl⟩ := hcut
      clear hbr
      go_upto_if 36 with fail
      go_cut [9] (fun v wx => ∃ T : ByteArray, v = .string T ∧ T.size ≤ 140 ∧ w2 = wx)
      case first =>
        by_cases h140 : 140 < t.size
        · have d1 : decide (140 < (t.size : Int)) = true := decide_eq_true (by omega)
          obtain ⟨T, hT⟩ : ∃ T, T = t.extract 0 140 := ⟨_, rfl⟩
          have hTz : T.size ≤ 140 := by rw [hT, ByteArray.size_extract]; omega
          have s1 : ∀ W, (Instr.slice 9 (.string t) none (some (.int .i64 140)) none).run Tryd.prog W = .ok (.string T) W := fun W => by
            have h := run_slice_string_h (P := Tryd.prog) W 9 t Tryd.underlying9 .i64 140 (by omega) (by omega)
            rw [show (140 : Int).toNat = 140 from rfl, ← hT] at h
            exact h
          clear hT
          go_wp2_with fail
          go_meet
          exact ⟨_, rfl, hTz, rfl⟩
        · have d1 : decide (140 < (t.size : Int)) = false := decide_eq_false (by omega)
          go_wp2_with fail
          go_meet
          exact ⟨_, rfl, by omega, rfl⟩
      case rest =>
        obtain ⟨T, rfl, hTz, rfl⟩ := hcut
        clear ct zt
        obtain ⟨R, o, hr1, hr2, hRz, hro, hck⟩ := both P p S cap x hzP hnil
        have C1 := Lib.hid hr1
        have C2 := Lib.hid hr2
        clear hr1 hr2
        obtain ⟨B, hB⟩ : ∃ B, B = rightB T.data.toList := ⟨_, rfl⟩
        have HGX := Lib.hid HG.out
        have qB : (B == B) = true := beq_self_eq_true B
        have qR : (R.toList == R.toList) = true := beq_self_eq_true _
        go_wp2_with fail
        refine (C1.out _ HS2.out (HG.out.t.keep HB2.out) (HG.out.n.keep HB2.out)).mono ?_
        rintro e w3 ⟨rfl, hb3⟩
        have HB3 := Lib.hid (HB2.out.trans (hb3.mono HB2.out.size))
        have HS3 := Lib.hid (HS2.out.keep hb3)
        clear hb3 HB2 HS2 C1
        go_wp2_with fail
        refine (C2.out _ HS3.out).mono ?_
        rintro e w4 ⟨rfl, hb4⟩
        have HB4 := Lib.hid (HB3.out.trans (hb4.mono HB3.out.size))
        clear hb4 HB3 HS3 C2
        go_wp2_with fail
        refine (right_any T _ (by omega) (HG.out.keep HB4.out)).mono ?_
        rintro e w5 ⟨rfl, hb5⟩
        have HB5 := Lib.hid (HB4.out.trans (hb5.mono HB4.out.size))
        clear hb5 HB4
        rw [← hB]
        go_wp2_with fail
        refine (rright_any T _ (by omega)).mono ?_
        rintro e w6 ⟨rfl, hb6⟩
        have HB6 := Lib.hid (HB5.out.trans (hb6.mono HB5.out.size))
        clear hb6 HB5
        rw [← hB]
        go_wp2_with fail
        refine (right_any R _ hRz (HG.out.keep HB6.out)).mono ?_
        rintro e w7 ⟨rfl, hb7⟩
        have HB7 := Lib.hid (HB6.out.trans (hb7.mono HB6.out.size))
        clear hb7 HB6
        rw [hro]
        cases o
        · have hb := HB7.out
          go_wp2_with fail
          go_ret
          exact ⟨rfl, hb⟩
        · have HC := Lib.hid (hck rfl)
          clear hck
          go_wp2_with fail
          refine (check_any R P _ hRz (by omega) (HG.out.keep HB7.out)).mono ?_
          rintro e w8 ⟨rfl, hb8⟩
          have hb := HB7.out.trans (hb8.mono HB7.out.size)
          clear hb8
          rw [HC.out]
          go_wp2_with fail
          go_ret
          exact ⟨rfl, hb⟩

end Go.Proofs.YtjcohlpjlifolaaDoor.macRecords
