/-
  What the document's own answers of layer 7 (package tipstaffref07) tell of an id.
-/
import Derived.Test.YthiaflnlmabikaaDoorRefTable
import Derived.Deep.MidRow
namespace Go.Proofs.YthiaflnlmabikaaDoor.RefTab
open Go.RowKit Kit BytesIn ReplyT TableMath
set_option linter.unusedVariables false
set_option maxRecDepth 100000

theorem build_nil (w : World) : (Instr.build 67 #[]).run Tryd.prog w = .ok (.agg #[.string ⟨#[]⟩, .int .i64 0, .int .u16 0]) w := run_build w 67 _ _ (by kernel_rfl)
theorem results_cell_slot {P : Program} {fn : Func} {p q : Tmp} {ty : TypeId} (h : fn.results = #[.cell p ty, .tmp q]) (tmps : Array Value) (w : World) (g : Nat) (t : TypeId) (cs : Array Value) (fr : Nat × Nat) (d : TypeDesc) (v : Value)
    (hp : tmps.getD p undef = .pointer (some ⟨g, 0, none⟩)) (hg : w.heap[g]? = some (.cells cs t fr))
    (hu : P.underlying ty = some d) (hd : (match d with | .struct _ | .array _ _ => true | _ => false) = true) (hi : (P.info? ty).map (·.size) = some cs.size) (hq : tmps.getD q undef = v) :
    (results fn tmps).run P w = .ok (.tuple #[.agg cs, v]) w := by
  have hp' : tmps[p]?.getD undef = .pointer (some ⟨g, 0, none⟩) := by simpa using hp
  have hq' : tmps[q]?.getD undef = v := by simpa using hq
  simp [results, h, hp', hq', asAddr, run_loadVar_row w g t ty cs fr d hg hu hd hi]
theorem atV_in {id : Int} (h0 : 0 ≤ id) (h1 : id < 56) : atV id = cmdAt id.toNat := if_pos ⟨h0, h1⟩
theorem atV_out {id : Int} (h : ¬ (0 ≤ id ∧ id < 56)) : atV id = nil := if_neg h

set_option maxHeartbeats 1000000 in
theorem at_any (id : Int) (w : World) (h0 : -9223372036854775808 ≤ id) (h1 : id ≤ 9223372036854775807) :
    Calls Tryd.prog 28 #[.int .i64 id] w fun e w' => e = .returned (.tuple #[aggV (atV id), .bool (atB id)]) ∧ Below w.heap.size w w' := by
  have hbz := build_nil
  have HB0 := Lib.hid (Kit.below1 w (.cells #[.string ByteArray.empty, .int .i64 0, .int .u16 0] 67))
  have CA := Lib.hid (fun W => all_any W)
  by_cases hin : 0 ≤ id ∧ id < 56
  · obtain ⟨k, rfl⟩ := Int.eq_ofNat_of_zero_le hin.1
    have hk : k < 56 := by omega
    have HV := Lib.hid (show atV (k : Int) = cmdAt k from atV_in hin.1 hin.2)
    have HVb := Lib.hid (show atB (k : Int) = true by unfold atB; exact decide_eq_true hin)
    have d1 : decide ((k : Int) < 0) = false := decide_eq_false (by omega)
    have d2 : decide ((56 : Int) ≤ (k : Int)) = false := decide_eq_false (by omega)
    obtain ⟨C, hC⟩ : ∃ C, C = cmdAt k := ⟨_, rfl⟩
    obtain ⟨S, hS⟩ : ∃ S : ByteArray, S = ⟨C.name.toArray⟩ := ⟨_, rfl⟩
    obtain ⟨r, hr⟩ : ∃ r, r = C.ar := ⟨_, rfl⟩
    obtain ⟨g, hg⟩ : ∃ g : Int, g = (C.ct : Int) := ⟨_, rfl⟩
    have HAg := Lib.hid (show aggV (atV (k : Int)) = .agg #[.string S, .int .i64 r, .int .u16 g] by rw [HV.out, ← hC, hS, hr, hg]; rfl)
    have HC := Lib.hid (show (Tryd.prog.info? 67).map (·.size) = some (#[.string S, .int .i64 r, .int .u16 g] : Array Value).size from cmd_size)
    have HOn := Lib.hid (show (#[.string S, .int .i64 r, .int .u16 g] : Array Value).all (·.oneCell') = true by simp [Value.oneCell'])
    clear hin
    go_enter Tryd.func28, Tryd.ntmps28
    go_wp2_with fail
    refine (CA.out _).mono ?_
    rintro e w1 ⟨b, c, rfl, hT, hc1, hc2, hb1⟩
    have HT := Lib.hid (show (w1.heap[w.heap.size]? = some (.cells #[.string ByteArray.empty, .int .i64 0, .int .u16 0] 67 (0, 0))) by rw [hb1.block w.heap.size (by simp)]; exact heap_alloc_last w _)
    have k0 : w1.cell? ⟨b, k * 3, none⟩ = some (.string S) := by rw [hT.name k hk, hS, hC]
    have k1 : w1.cell? ⟨b, k * 3 + 1, none⟩ = some (.int .i64 r) := by rw [hT.ar k hk, hr, hC]
    have k2 : w1.cell? ⟨b, k * 3 + 2, none⟩ = some (.int .u16 g) := by rw [hT.ct k hk, hg, hC]
    have HB1 := Lib.hid (HB0.out.trans (hb1.mono HB0.out.size))
    clear hT hb1 CA HB0 hC hS hr hg HV
    go_wp2_with (with_reducible refine wpList_store_row rfl 67 (.tmp 2) (.tmp 18) rfl w.heap.size #[.string S, .int .i64 r, .int .u16 g] rfl rfl 67 _ HT.out HC.out rfl HOn.out ?_)
    exact bodyPost_ret (results_cell_slot rfl _ _ w.heap.size 67 #[.string S, .int .i64 r, .int .u16 g] (0, 0) _ (.bool true) rfl (setRow_heap w1 w.heap.size _ _ _ _ HT.out) Tryd.underlying67 rfl HC.out rfl) rfl ⟨by rw [HAg.out, HVb.out], below_setRow HB1.out (Nat.le_refl _) _⟩
  · have HV := Lib.hid (show atV id = nil from atV_out hin)
    have HVb := Lib.hid (show atB id = false by unfold atB; exact decide_eq_false hin)
    have HC := Lib.hid (show (Tryd.prog.info? 67).map (·.size) = some (#[.string ⟨#[]⟩, .int .i64 0, .int .u16 0] : Array Value).size from cmd_size)
    have HOn := Lib.hid (show (#[.string ⟨#[]⟩, .int .i64 0, .int .u16 0] : Array Value).all (·.oneCell') = true by simp [Value.oneCell'])
    have tst : decide (id < 0) = true ∨ (decide (id < 0) = false ∧ decide ((56 : Int) ≤ id) = true) := by
      simp only [decide_eq_true_eq, decide_eq_false_iff_not]
      omega
    clear hin
    go_enter Tryd.func28, Tryd.ntmps28
    go_wp2_with fail
    refine (CA.out _).mono ?_
    rintro e w1 ⟨b, c, rfl, hT, hc1, hc2, hb1⟩
    have HT := Lib.hid (show (w1.heap[w.heap.size]? = some (.cells #[.string ByteArray.empty, .int .i64 0, .int .u16 0] 67 (0, 0))) by rw [hb1.block w.heap.size (by simp)]; exact heap_alloc_last w _)
    have HB1 := Lib.hid (HB0.out.trans (hb1.mono HB0.out.size))
    clear hT hb1 CA HB0
    rcases tst with d1 | ⟨d1, d2⟩
    all_goals
      go_wp2_with (with_reducible refine wpList_store_row rfl 67 (.tmp 2) (.tmp 14) rfl w.heap.size #[.string ⟨#[]⟩, .int .i64 0, .int .u16 0] rfl rfl 67 _ HT.out HC.out rfl HOn.out ?_)
      exact bodyPost_ret (results_cell_slot rfl _ _ w.heap.size 67 #[.string ⟨#[]⟩, .int .i64 0, .int .u16 0] (0, 0) _ (.bool false) rfl (setRow_heap w1 w.heap.size _ _ _ _ HT.out) Tryd.underlying67 rfl HC.out rfl) rfl ⟨by rw [HV.out, HVb.out]; rfl, below_setRow HB1.out (Nat.le_refl _) _⟩

end Go.Proofs.YthiaflnlmabikaaDoor.RefTab
