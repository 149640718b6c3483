/-
  What the document's own answers of layer 7 (package tipstaffref07) tell of a name, and of so many words.
-/
import Derived.Test.YtonoelpmmjnpeaaRefTable2
import Derived.Test.YtonoelpmmjnpeaaLowRef
import Derived.Test.YtonoelpmmjnpeaaStrRows
import Derived.Lib.QuietBelow
import Derived.BigQuiet
import Derived.Deep.QuietTactic
namespace Go.Proofs.Ytonoelpmmjnpeaa.RefTab
open Go.RowKit Kit TableMath Low StrT
open Go.Sort (grow)
set_option linter.unusedVariables false
set_option maxRecDepth 100000

theorem beq_str (S T : ByteArray) (a b : List UInt8) (hS : S.data.toList = a) (hT : T.data.toList = b) : (S.toList == T.toList) = decide (a = b) := by
  rw [ByteArray.toList_eq, ByteArray.toList_eq, hS, hT, Bool.eq_iff_iff, beq_iff_eq, decide_eq_true_eq]

set_option maxHeartbeats 1000000 in
theorem find_any (s : ByteArray) (w : World) (hz : s.size ≤ 140737488351232) :
    Calls Try.prog 28 #[.string s] w fun e w' => e = .returned (.tuple #[.int .i64 (findV (lowL s.data.toList)), .bool (findB (lowL s.data.toList))]) ∧ Below w.heap.size w w' := by
  have CA := Lib.hid (all_any w)
  obtain ⟨T, hT⟩ : ∃ T : ByteArray, T = ⟨(lowL s.data.toList).toArray⟩ := ⟨_, rfl⟩
  have CL := Lib.hid (fun W => (hT ▸ LowR.lower_ref s W (by omega) hz : Calls Try.prog 21 #[.string s] W fun e w' => e = .returned (.string T) ∧ Below W.heap.size W w'))
  obtain ⟨l, hl⟩ : ∃ l, l = lowL s.data.toList := ⟨_, rfl⟩
  have HTd := Lib.hid (show T.data.toList = l by rw [hT, hl])
  rw [← hl]
  have HLe := Lib.hid (findK_le l)
  clear hT hl
  go_enter Try.func28, Try.ntmps28
  go_wp2_with fail
  refine CA.out.mono ?_
  rintro e w1 ⟨b, c, rfl, hTab, hc1, hc2, hb1⟩
  have HTab := Lib.hid hTab
  have HB1 := Lib.hid hb1
  clear hTab hb1 CA
  go_wp2_with fail
  go_loopw [5] (fun i wr => ∃ k : Nat, k ≤ 56 ∧ i = .int .i64 k ∧ Hid (k ≤ findK l) ∧ Hid (Below w.heap.size w wr) ∧ Hid (Below w1.heap.size w1 wr)) (fun i _ => 56 - (intOf i).toNat)
  case atStart => exact ⟨0, by omega, rfl, Lib.hid (Nat.zero_le _), HB1, Lib.hid (Below.refl _ _)⟩
  case round =>
    obtain ⟨k, hk, rfl, HK, HB, HBr⟩ := hrel
    by_cases hlt : k < 56
    · have d1 : decide ((k : Int) < 56) = true := decide_eq_true (by omega)
      obtain ⟨S, hS⟩ : ∃ S : ByteArray, S = ⟨(cmdAt k).name.toArray⟩ := ⟨_, rfl⟩
      have hcell : wr.cell? ⟨b, k * 3, none⟩ = some (.string S) := by rw [(HTab.out.keep HBr.out).name k hlt, hS]
      have hE := beq_str S T (cmdAt k).name l (by rw [hS]) HTd.out
      have hb := HB.out
      have k0 : (0 : Int) ≤ (k : Int) := by omega
      have CT := Lib.hid (fun dd os => Calls.regrown_of (CL.out (grow (redrawn wr dd) os)))
      have e1 := fun dd os => cell_regrown hcell dd os
      by_cases hn : (cmdAt k).name = l
      · have hE2 : (S.toList == T.toList) = true := by rw [hE]; exact decide_eq_true hn
        have HF := Lib.hid (findV_at hlt (findK_at hlt HK.out hn))
        clear hE hn hS HB
        go_wp2_with fail
        refine wp_region_quiet_below (by kernel_rfl) (by kernel_rfl) ?_
        repeat (any_goals (go_big_quiet_step ((go_at_call 21; with_reducible exact CT.out _ _))))
        refine wpQuiet_nil ?_
        intro _ hw'
        obtain ⟨⟨dq, osq⟩, hw''⟩ := hw'
        subst hw''
        replace hb := hb.trans ((below_regrown _ dq osq).mono hb.size)
        clear e1 CT hcell
        go_wp2_with fail
        go_ret2
        exact ⟨by rw [HF.out.1, HF.out.2]; rfl, hb⟩
      · have hE2 : (S.toList == T.toList) = false := by rw [hE]; exact decide_eq_false hn
        have HK2 := Lib.hid (findK_next hlt HK.out hn)
        have HB2 := Lib.hid (fun (W : World) (h : Below wr.heap.size wr W) => HBr.out.trans (h.mono HBr.out.size))
        clear hE hn hS HB
        have hb0 := hb
        replace hb := Below.refl wr.heap.size wr
        have HBo := Lib.hid hb0
        clear hb0
        go_wp2_with fail
        refine wp_region_quiet_below (by kernel_rfl) (by kernel_rfl) ?_
        repeat (any_goals (go_big_quiet_step ((go_at_call 21; with_reducible exact CT.out _ _))))
        refine wpQuiet_nil ?_
        intro _ hw'
        obtain ⟨⟨dq, osq⟩, hw''⟩ := hw'
        subst hw''
        replace hb := hb.trans ((below_regrown _ dq osq).mono hb.size)
        clear e1 CT hcell
        have HB3 := Lib.hid (HB2.out _ hb)
        have HB4 := Lib.hid (HBo.out.trans (hb.mono HBo.out.size))
        clear hb
        go_wp2_with fail
        go_roundw
        case rel => exact ⟨k + 1, by omega, by go_num, HK2, HB4, HB3⟩
        case measure => simp [intOf]; omega
    · have d1 : decide ((k : Int) < 56) = false := decide_eq_false (by omega)
      have HF := Lib.hid (findV_none (s := l) (by have := HK.out; omega))
      have HBo := HB
      clear HB HBr
      go_wp2_with fail
      go_ret2
      exact ⟨by rw [HF.out.1, HF.out.2]; rfl, HBo.out⟩

/-- Whether so many words fit, by the arity. -/
theorem fits_out {id words : Int} (h : atB id = false) : fitsB id words = false := by unfold fitsB; rw [h]; rfl
theorem fits_low {id words r : Int} (h : atB id = true) (hr : r = (atV id).ar) (h0 : r < 0) : fitsB id words = decide (-r ≤ words) := by
  unfold fitsB
  rw [h, ← hr, if_pos h0]
  rfl
theorem fits_same {id words r : Int} (h : atB id = true) (hr : r = (atV id).ar) (h0 : ¬ r < 0) : fitsB id words = decide (words = r) := by
  unfold fitsB
  rw [h, ← hr, if_neg h0]
  rfl
theorem ar_small (id : Int) : -3 ≤ (atV id).ar ∧ (atV id).ar ≤ 4 := by
  have hall : ∀ c ∈ cmds, -3 ≤ c.ar ∧ c.ar ≤ 4 := by decide
  unfold atV
  split
  · rename_i h
    rw [cmdAt_get id.toNat (by omega)]
    exact hall _ (List.getElem_mem _)
  · exact ⟨by decide, by decide⟩
set_option maxHeartbeats 1000000 in
theorem fits_any (id words : Int) (w : World) (h0 : -9223372036854775808 ≤ id) (h1 : id ≤ 9223372036854775807) (h2 : -9223372036854775808 ≤ words) (h3 : words ≤ 9223372036854775807) :
    Calls Try.prog 19 #[.int .i64 id, .int .i64 words] w fun e w' => e = .returned (.bool (fitsB id words)) ∧ Below w.heap.size w w' := by
  have C := Lib.hid (at_any id w h0 h1)
  have har := ar_small id
  have HF0 := Lib.hid (fun h => fits_out (id := id) (words := words) h)
  have HF1 := Lib.hid (fun r h hr h0 => fits_low (id := id) (words := words) (r := r) h hr h0)
  have HF2 := Lib.hid (fun r h hr h0 => fits_same (id := id) (words := words) (r := r) h hr h0)
  obtain ⟨S, hS⟩ : ∃ S : ByteArray, S = ⟨(atV id).name.toArray⟩ := ⟨_, rfl⟩
  obtain ⟨r, hr⟩ : ∃ r, r = (atV id).ar := ⟨_, rfl⟩
  obtain ⟨g, hg⟩ : ∃ g : Int, g = ((atV id).ct : Int) := ⟨_, rfl⟩
  rw [show aggV (atV id) = .agg #[.string S, .int .i64 r, .int .u16 g] by rw [hS, hr, hg]; rfl] at C
  rw [← hr] at har HF1 HF2
  obtain ⟨har1, har2⟩ := har
  obtain ⟨B, hB⟩ : ∃ B, B = fitsB id words := ⟨_, rfl⟩
  rw [← hB] at HF0 HF1 HF2 ⊢
  obtain ⟨k, hk⟩ : ∃ k, k = atB id := ⟨_, rfl⟩
  rw [← hk] at C HF0 HF1 HF2
  have HC := Lib.hid (show (Try.prog.info? 37).map (·.size) = some (#[.string S, .int .i64 r, .int .u16 g] : Array Value).size from cmd_size)
  have HOn := Lib.hid (show (#[.string S, .int .i64 r, .int .u16 g] : Array Value).all (·.oneCell') = true by simp [Value.oneCell'])
  clear hS hr hg hB hk
  go_enter Try.func19, Try.ntmps19
  go_wp2_with fail
  refine C.out.mono ?_
  rintro e w1 ⟨rfl, hb1⟩
  have HB1 := Lib.hid (hb1.alloc hb1.size (.cells #[.string ByteArray.empty, .int .i64 0, .int .u16 0] 37))
  have HB2 := Lib.hid (hb1.alloc hb1.size (.cells #[.string S, .int .i64 r, .int .u16 g] 37))
  clear hb1 C HB1
  cases k with
  | false =>
    have HB := Lib.hid (HF0.out rfl)
    go_wp2_with fail
    go_ret
    exact ⟨ret_bool HB.out.symm, HB2.out⟩
  | true =>
    by_cases hneg : r < 0
    · have d1 : decide (r < 0) = true := decide_eq_true hneg
      have HB := Lib.hid (HF1.out r rfl rfl hneg)
      clear hneg
      go_wp2_with fail
      go_ret
      exact ⟨ret_bool HB.out.symm, HB2.out⟩
    · have d1 : decide (r < 0) = false := decide_eq_false hneg
      have HB := Lib.hid (HF2.out r rfl rfl (by omega))
      have db : (words == r) = decide (words = r) := by rw [Bool.eq_iff_iff, beq_iff_eq, decide_eq_true_eq]
      clear hneg
      go_wp2_with fail
      go_ret
      exact ⟨ret_bool HB.out.symm, HB2.out⟩

end Go.Proofs.Ytonoelpmmjnpeaa.RefTab
