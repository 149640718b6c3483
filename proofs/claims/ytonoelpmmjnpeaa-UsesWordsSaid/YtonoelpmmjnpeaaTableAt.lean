/-
  The landed code of layer 7: the command of an id, and whether so many words may be.
-/
import Derived.Test.YtonoelpmmjnpeaaTableRows2
import Derived.Test.YtonoelpmmjnpeaaRefFind
namespace Go.Proofs.Ytonoelpmmjnpeaa.TableM
open Go.RowKit Kit TableMath
open RefTab (build_nil results_cell_slot atV_in atV_out cmd_size fits_out fits_low fits_same ar_small)
set_option linter.unusedVariables false
set_option maxRecDepth 100000

set_option maxHeartbeats 1000000 in
theorem at_any (id : Int) (w : World) (h0 : -9223372036854775808 ≤ id) (h1 : id ≤ 9223372036854775807) :
    Calls Try.prog 24 #[.int .i64 id] w fun e w' => e = .returned (.tuple #[aggV (atV id), .bool (atB id)]) ∧ Below w.heap.size w w' := by
  have hbz := build_nil
  have HB0 := Lib.hid (Kit.below1 w (.cells #[.string ByteArray.empty, .int .i64 0, .int .u16 0] 37))
  have CA := Lib.hid (fun W => rows_any W)
  by_cases hin : 0 ≤ id ∧ id < 56
  · obtain ⟨k, rfl⟩ := Int.eq_ofNat_of_zero_le hin.1
    have hk : k < 56 := by omega
    have HV := Lib.hid (show atV (k : Int) = cmdAt k from atV_in hin.1 hin.2)
    have HVb := Lib.hid (show atB (k : Int) = true by unfold atB; exact decide_eq_true hin)
    have d1 : decide ((k : Int) < 0) = false := decide_eq_false (by omega)
    have d2 : decide ((56 : Int) ≤ (k : Int)) = false := decide_eq_false (by omega)
    have hidx := idx_row k hk
    obtain ⟨K, hK⟩ : ∃ K, K = cmdAt k := ⟨_, rfl⟩
    rw [← hK] at hidx
    obtain ⟨S, hS⟩ : ∃ S : ByteArray, S = ⟨K.name.toArray⟩ := ⟨_, rfl⟩
    obtain ⟨r, hr⟩ : ∃ r, r = K.ar := ⟨_, rfl⟩
    obtain ⟨g, hg⟩ : ∃ g : Int, g = (K.ct : Int) := ⟨_, rfl⟩
    rw [← hS, ← hr, ← hg] at hidx
    have HAg := Lib.hid (show aggV (atV (k : Int)) = .agg #[.string S, .int .i64 r, .int .u16 g] by rw [HV.out, ← hK, hS, hr, hg]; rfl)
    have HC := Lib.hid (show (Try.prog.info? 37).map (·.size) = some (#[.string S, .int .i64 r, .int .u16 g] : Array Value).size from cmd_size)
    have HOn := Lib.hid (show (#[.string S, .int .i64 r, .int .u16 g] : Array Value).all (·.oneCell') = true by simp [Value.oneCell'])
    clear hin hS hr hg hK HV
    generalize rowsC = C at CA hidx
    go_enter Try.func24, Try.ntmps24
    go_wp2_with fail
    refine (CA.out _).mono ?_
    rintro e w1 ⟨rfl, hb1⟩
    have HT := Lib.hid (show (w1.heap[w.heap.size]? = some (.cells #[.string ByteArray.empty, .int .i64 0, .int .u16 0] 37 (0, 0))) by rw [hb1.block w.heap.size (by simp)]; exact heap_alloc_last w _)
    replace HT := Lib.hid (show ((w1.alloc (.cells #[.string S, .int .i64 r, .int .u16 g] 62)).heap[w.heap.size]? = some (.cells #[.string ByteArray.empty, .int .i64 0, .int .u16 0] 37 (0, 0))) by rw [Below.heap_alloc w1 _ w.heap.size (by have := hb1.size; simp at this; omega)]; exact HT.out)
    have HB1 := Lib.hid ((HB0.out.trans (hb1.mono HB0.out.size)).alloc (HB0.out.trans (hb1.mono HB0.out.size)).size (.cells #[.string S, .int .i64 r, .int .u16 g] 62))
    clear hb1 CA HB0
    go_wp2_with (with_reducible refine wpList_store_row rfl 37 (.tmp 2) (.tmp 21) rfl w.heap.size #[.string S, .int .i64 r, .int .u16 g] rfl rfl 37 _ HT.out HC.out rfl HOn.out ?_)
    exact bodyPost_ret (results_cell_slot rfl _ _ w.heap.size 37 #[.string S, .int .i64 r, .int .u16 g] (0, 0) _ (.bool true) rfl (setRow_heap _ w.heap.size _ _ _ _ HT.out) Try.underlying37 rfl HC.out rfl) rfl ⟨by rw [HAg.out, HVb.out], below_setRow HB1.out (Nat.le_refl _) _⟩
  · have HV := Lib.hid (show atV id = nil from atV_out hin)
    have HVb := Lib.hid (show atB id = false by unfold atB; exact decide_eq_false hin)
    have HC := Lib.hid (show (Try.prog.info? 37).map (·.size) = some (#[.string ⟨#[]⟩, .int .i64 0, .int .u16 0] : Array Value).size from cmd_size)
    have HOn := Lib.hid (show (#[.string ⟨#[]⟩, .int .i64 0, .int .u16 0] : Array Value).all (·.oneCell') = true by simp [Value.oneCell'])
    have tst : decide (id < 0) = true ∨ (decide (id < 0) = false ∧ decide ((56 : Int) ≤ id) = true) := by
      simp only [decide_eq_true_eq, decide_eq_false_iff_not]
      omega
    clear hin CA
    rcases tst with d1 | ⟨d1, d2⟩
    all_goals
      go_enter Try.func24, Try.ntmps24
      go_wp2_with (with_reducible refine wpList_store_row rfl 37 (.tmp 2) (.tmp 11) rfl w.heap.size #[.string ⟨#[]⟩, .int .i64 0, .int .u16 0] rfl rfl 37 _ (heap_alloc_last _ _) HC.out rfl HOn.out ?_)
      exact bodyPost_ret (results_cell_slot rfl _ _ w.heap.size 37 #[.string ⟨#[]⟩, .int .i64 0, .int .u16 0] (0, 0) _ (.bool false) rfl (setRow_heap _ w.heap.size _ _ _ _ (heap_alloc_last _ _)) Try.underlying37 rfl HC.out rfl) rfl ⟨by rw [HV.out, HVb.out]; rfl, below_setRow HB0.out (Nat.le_refl _) _⟩

set_option maxHeartbeats 1000000 in
theorem fits_any (id words : Int) (w : World) (h0 : -9223372036854775808 ≤ id) (h1 : id ≤ 9223372036854775807) (h2 : -9223372036854775808 ≤ words) (h3 : words ≤ 9223372036854775807) :
    Calls Try.prog 25 #[.int .i64 id, .int .i64 words] w fun e w' => e = .returned (.bool (fitsB id words)) ∧ Below w.heap.size w w' := by
  have C := Lib.hid (at_any id w h0 h1)
  have har := ar_small id
  have HF0 := Lib.hid (fun h => fits_out (id := id) (words := words) h)
  have HF1 := Lib.hid (fun r h hr h0 => fits_low (id := id) (words := words) (r := r) h hr h0)
  have HF2 := Lib.hid (fun r h hr h0 => fits_same (id := id) (words := words) (r := r) h hr h0)
  obtain ⟨S, hS⟩ : ∃ S : ByteArray, S = ⟨(atV id).name.toArray⟩ := ⟨_, rfl⟩
  obtain ⟨r, hr⟩ : ∃ r, r = (atV id).ar := ⟨_, rfl⟩
  obtain ⟨g, hg⟩ : ∃ g : Int, g = ((atV id).ct : Int) := ⟨_, rfl⟩
  rw [show aggV (atV id) = .agg #[.string S, .int .i64 r, .int .u16 g] by rw [hS, hr, hg]; rfl] at C
  rw [← hr] at har HF1 HF2
  obtain ⟨har1, har2⟩ := har
  obtain ⟨B, hB⟩ : ∃ B, B = fitsB id words := ⟨_, rfl⟩
  rw [← hB] at HF0 HF1 HF2 ⊢
  obtain ⟨k, hk⟩ : ∃ k, k = atB id := ⟨_, rfl⟩
  rw [← hk] at C HF0 HF1 HF2
  have HC := Lib.hid (show (Try.prog.info? 37).map (·.size) = some (#[.string S, .int .i64 r, .int .u16 g] : Array Value).size from cmd_size)
  have HOn := Lib.hid (show (#[.string S, .int .i64 r, .int .u16 g] : Array Value).all (·.oneCell') = true by simp [Value.oneCell'])
  clear hS hr hg hB hk
  go_enter Try.func25, Try.ntmps25
  go_wp2_with fail
  refine C.out.mono ?_
  rintro e w1 ⟨rfl, hb1⟩
  have HB1 := Lib.hid (hb1.alloc hb1.size (.cells #[.string ByteArray.empty, .int .i64 0, .int .u16 0] 37))
  have HB2 := Lib.hid (hb1.alloc hb1.size (.cells #[.string S, .int .i64 r, .int .u16 g] 37))
  clear hb1 C HB1
  cases k with
  | false =>
    have HB := Lib.hid (HF0.out rfl)
    go_wp2_with fail
    go_ret
    exact ⟨ret_bool HB.out.symm, HB2.out⟩
  | true =>
    by_cases hneg : r < 0
    · have d1 : decide (r < 0) = true := decide_eq_true hneg
      have HB := Lib.hid (HF1.out r rfl rfl hneg)
      clear hneg
      go_wp2_with fail
      go_ret
      exact ⟨ret_bool HB.out.symm, HB2.out⟩
    · have d1 : decide (r < 0) = false := decide_eq_false hneg
      have HB := Lib.hid (HF2.out r rfl rfl (by omega))
      have db : (words == r) = decide (words = r) := by rw [Bool.eq_iff_iff, beq_iff_eq, decide_eq_true_eq]
      clear hneg
      go_wp2_with fail
      go_ret
      exact ⟨ret_bool HB.out.symm, HB2.out⟩
end Go.Proofs.Ytonoelpmmjnpeaa.TableM
