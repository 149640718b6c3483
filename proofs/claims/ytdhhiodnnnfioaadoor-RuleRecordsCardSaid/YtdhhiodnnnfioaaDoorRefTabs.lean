/-
  The document's own table: all its rows, and one of them.
-/
import Derived.Test.YtdhhiodnnnfioaaDoorTableMath
import Derived.Test.YtdhhiodnnnfioaaDoorReplyT
import Derived.Test.YtdhhiodnnnfioaaDoorRow
import Derived.Laws.Rows
import Derived.Laws.Tables
import Derived.Deep.MidRow
namespace Go.Proofs.YtdhhiodnnnfioaaDoor.RefTab
open Go.RowKit Kit BytesIn ReplyT TableMath
set_option linter.unusedVariables false
set_option maxRecDepth 100000

theorem cmd_parts : (Tryd.prog.info? 31).map (fun i => (i.zero, i.size, i.bytes)) = some (some (.agg #[.string ByteArray.empty, .int .i64 0, .int .u16 0]), 3, 32) := by kernel_rfl
theorem cmd_size : (Tryd.prog.info? 31).map (·.size) = some 3 := by kernel_rfl

set_option maxHeartbeats 1000000 in
theorem one_no (s : ByteArray) (n g : Int) (w : World) (h0 : 0 ≤ g) (h1 : g ≤ 60000) :
    Calls Tryd.prog 39 #[.string s, .int .i64 n, .int .u16 g, .bool false] w fun e w' => e = .returned (.agg #[.string s, .int .i64 n, .int .u16 (g + 1)]) ∧ Below w.heap.size w w' := by
  have HC := Lib.hid (show (Tryd.prog.info? 31).map (·.size) = some (#[.string s, .int .i64 n, .int .u16 (g + 1)] : Array Value).size from cmd_size)
  have HO := Lib.hid (show (#[.string s, .int .i64 n, .int .u16 (g + 1)] : Array Value).all (·.oneCell') = true by simp [Value.oneCell'])
  have HW := Lib.hid (Kit.below1 w (.cells #[.string ByteArray.empty, .int .i64 0, .int .u16 0] 31))
  go_enter Tryd.func39, Tryd.ntmps39
  go_wp2_with (with_reducible refine wpList_store_row rfl 31 (.tmp 8) (.tmp 19) rfl w.heap.size #[.string s, .int .i64 n, .int .u16 (g + 1)] rfl rfl 31 _ (heap_alloc_last _ _) HC.out rfl HO.out ?_)
  exact bodyPost_ret (results_cell_row rfl _ _ w.heap.size 31 #[.string s, .int .i64 n, .int .u16 (g + 1)] (0, 0) _ rfl (setRow_heap _ w.heap.size _ _ _ _ (heap_alloc_last _ _)) Tryd.underlying31 rfl HC.out) rfl ⟨rfl, below_setRow HW.out (Nat.le_refl _) _⟩
set_option maxHeartbeats 1000000 in
theorem one_yes (s : ByteArray) (n g : Int) (w : World) (h0 : 0 ≤ g) (h1 : g ≤ 60000) :
    Calls Tryd.prog 39 #[.string s, .int .i64 n, .int .u16 g, .bool true] w fun e w' => e = .returned (.agg #[.string s, .int .i64 n, .int .u16 (g + 2)]) ∧ Below w.heap.size w w' := by
  have HC := Lib.hid (show (Tryd.prog.info? 31).map (·.size) = some (#[.string s, .int .i64 n, .int .u16 (g + 2)] : Array Value).size from cmd_size)
  have HO := Lib.hid (show (#[.string s, .int .i64 n, .int .u16 (g + 2)] : Array Value).all (·.oneCell') = true by simp [Value.oneCell'])
  have HW := Lib.hid (Kit.below1 w (.cells #[.string ByteArray.empty, .int .i64 0, .int .u16 0] 31))
  go_enter Tryd.func39, Tryd.ntmps39
  go_wp2_with (with_reducible refine wpList_store_row rfl 31 (.tmp 8) (.tmp 14) rfl w.heap.size #[.string s, .int .i64 n, .int .u16 (g + 2)] rfl rfl 31 _ (heap_alloc_last _ _) HC.out rfl HO.out ?_)
  exact bodyPost_ret (results_cell_row rfl _ _ w.heap.size 31 #[.string s, .int .i64 n, .int .u16 (g + 2)] (0, 0) _ rfl (setRow_heap _ w.heap.size _ _ _ _ (heap_alloc_last _ _)) Tryd.underlying31 rfl HC.out) rfl ⟨rfl, below_setRow HW.out (Nat.le_refl _) _⟩

theorem lit_cells (W : World) (C : Array Value) (t : TypeId) (g : Nat) (hg : W.heap.size = g) : ∀ j u, C.toList[j]? = some u → (W.alloc (.cells C t)).cell? ((⟨g, 0, none⟩ : Addr).add j) = some u := fun j u h => by
  subst hg
  rw [Addr.add_lit, cell_of_row _ _ _ _ t _ (heap_alloc_last W _)]
  simpa using h
theorem all_one (C : Array Value) (h : C.toList.all (·.oneCell') = true) : ∀ u ∈ C.toList, u.oneCell' = true := fun u hu => List.all_eq_true.1 h u hu
theorem own_tab {w : World} {base : Nat} {t : TypeId} {v : Value} {xs : List Value} (h : w.ownsRow base t 3 v 56 xs) (hx : xs = flatV cmds) : ∃ b c, v = .slice (some ⟨b, 0, none⟩) 56 c ∧ Tab w b ∧ 56 ≤ c ∧ c ≤ 9223372036854775807 := by
  subst hx
  rcases id h.2 with ⟨e, h0⟩ | ⟨g, cap, cur, rfl, hgb, hh, h1, h2, -⟩
  · cases h0
  · refine ⟨g, cap, rfl, ⟨?_, fun j hj => World.ownsRow.cellAt h j (by omega)⟩, h1, by unfold maxLen at h2; omega⟩
    rcases Nat.lt_or_ge g w.heap.size with h' | h'
    · exact h'
    · rw [Array.getElem?_eq_none h'] at hh; cases hh
set_option maxHeartbeats 8000000 in
theorem all_any (w : World) : Calls Tryd.prog 26 #[] w fun e w' => ∃ b c, e = .returned (.slice (some ⟨b, 0, none⟩) 56 c) ∧ Tab w' b ∧ 56 ≤ c ∧ c ≤ 9223372036854775807 ∧ Below w.heap.size w w' := by
  obtain ⟨i0, hi0, hz0, hz1, hzb⟩ := info_parts cmd_parts
  have hb := Below.refl w.heap.size w
  go_enter Tryd.func26, Tryd.ntmps26
  go_wp2_with fail
  iterate 42
    first
      | (with_reducible refine (one_no _ _ _ _ (by decide) (by decide)).mono ?_)
      | (with_reducible refine (one_yes _ _ _ _ (by decide) (by decide)).mono ?_)
    rintro e w1 ⟨rfl, hb1⟩
    replace hb := hb.trans (hb1.mono hb.size)
    clear hb1
    go_wp2_with fail
  with_reducible refine (one_yes _ _ _ _ (by decide) (by decide)).mono ?_
  rintro e w1 ⟨rfl, hb1⟩
  replace hb := hb.trans (hb1.mono hb.size)
  clear hb1
  go_wp2_with (at_builtin; refine wpList_append_own _ rfl (.tmp 61) (.tmp 62) 53 rfl w.heap.size 31 i0 _ 3 32 Tryd.underlying53 hi0 hz0 hz1 hzb rfl (by decide) _ 43 _ rfl (World.ownsRow.alloc (World.ownsRow_lit w1 _ 43 hb.size (by decide) rfl) _) ⟨w1.heap.size + 1, 0, none⟩ 13 13 _ rfl rfl (lit_cells (w1.alloc _) _ _ _ (by simp)) (all_one _ rfl) (by decide) (by decide) (by simp; have := hb.size; omega) ?_; intro v' w2 hown hgrow _)
  obtain ⟨b, c, rfl, hT, h1, h2⟩ := own_tab hown rfl
  have hbe : Below w.heap.size w w2 := ((hb.alloc hb.size _).alloc (by simp; have := hb.size; omega) _).grown hgrow (by simp; have := hb.size; omega) (fun k hk => by have hk : some w1.heap.size = some k := hk; injection hk with hk; subst hk; exact hb.size)
  clear hown hgrow hb
  go_wp2_with fail
  go_ret
  exact ⟨b, c, rfl, hT, h1, h2, hbe⟩

end Go.Proofs.YtdhhiodnnnfioaaDoor.RefTab
namespace Go.Proofs.YtdhhiodnnnfioaaDoor.RefTab
open Go.RowKit Kit BytesIn ReplyT TableMath
set_option linter.unusedVariables false
set_option maxRecDepth 100000

theorem build_nil (w : World) : (Instr.build 31 #[]).run Tryd.prog w = .ok (.agg #[.string ⟨#[]⟩, .int .i64 0, .int .u16 0]) w := run_build w 31 _ _ (by kernel_rfl)
theorem results_cell_slot {P : Program} {fn : Func} {p q : Tmp} {ty : TypeId} (h : fn.results = #[.cell p ty, .tmp q]) (tmps : Array Value) (w : World) (g : Nat) (t : TypeId) (cs : Array Value) (fr : Nat × Nat) (d : TypeDesc) (v : Value)
    (hp : tmps.getD p undef = .pointer (some ⟨g, 0, none⟩)) (hg : w.heap[g]? = some (.cells cs t fr))
    (hu : P.underlying ty = some d) (hd : (match d with | .struct _ | .array _ _ => true | _ => false) = true) (hi : (P.info? ty).map (·.size) = some cs.size) (hq : tmps.getD q undef = v) :
    (results fn tmps).run P w = .ok (.tuple #[.agg cs, v]) w := by
  have hp' : tmps[p]?.getD undef = .pointer (some ⟨g, 0, none⟩) := by simpa using hp
  have hq' : tmps[q]?.getD undef = v := by simpa using hq
  simp [results, h, hp', hq', asAddr, run_loadVar_row w g t ty cs fr d hg hu hd hi]
theorem atV_in {id : Int} (h0 : 0 ≤ id) (h1 : id < 56) : atV id = cmdAt id.toNat := if_pos ⟨h0, h1⟩
theorem atV_out {id : Int} (h : ¬ (0 ≤ id ∧ id < 56)) : atV id = nil := if_neg h

set_option maxHeartbeats 1000000 in
theorem at_any (id : Int) (w : World) (h0 : -9223372036854775808 ≤ id) (h1 : id ≤ 9223372036854775807) :
    Calls Tryd.prog 10 #[.int .i64 id] w fun e w' => e = .returned (.tuple #[aggV (atV id), .bool (atB id)]) ∧ Below w.heap.size w w' := by
  have hbz := build_nil
  have HB0 := Lib.hid (Kit.below1 w (.cells #[.string ByteArray.empty, .int .i64 0, .int .u16 0] 31))
  have CA := Lib.hid (fun W => all_any W)
  by_cases hin : 0 ≤ id ∧ id < 56
  · obtain ⟨k, rfl⟩ := Int.eq_ofNat_of_zero_le hin.1
    have hk : k < 56 := by omega
    have HV := Lib.hid (show atV (k : Int) = cmdAt k from atV_in hin.1 hin.2)
    have HVb := Lib.hid (show atB (k : Int) = true by unfold atB; exact decide_eq_true hin)
    have d1 : decide ((k : Int) < 0) = false := decide_eq_false (by omega)
    have d2 : decide ((56 : Int) ≤ (k : Int)) = false := decide_eq_false (by omega)
    obtain ⟨C, hC⟩ : ∃ C, C = cmdAt k := ⟨_, rfl⟩
    obtain ⟨S, hS⟩ : ∃ S : ByteArray, S = ⟨C.name.toArray⟩ := ⟨_, rfl⟩
    obtain ⟨r, hr⟩ : ∃ r, r = C.ar := ⟨_, rfl⟩
    obtain ⟨g, hg⟩ : ∃ g : Int, g = (C.ct : Int) := ⟨_, rfl⟩
    have HAg := Lib.hid (show aggV (atV (k : Int)) = .agg #[.string S, .int .i64 r, .int .u16 g] by rw [HV.out, ← hC, hS, hr, hg]; rfl)
    have HC := Lib.hid (show (Tryd.prog.info? 31).map (·.size) = some (#[.string S, .int .i64 r, .int .u16 g] : Array Value).size from cmd_size)
    have HOn := Lib.hid (show (#[.string S, .int .i64 r, .int .u16 g] : Array Value).all (·.oneCell') = true by simp [Value.oneCell'])
    clear hin
    go_enter Tryd.func10, Tryd.ntmps10
    go_wp2_with fail
    refine (CA.out _).mono ?_
    rintro e w1 ⟨b, c, rfl, hT, hc1, hc2, hb1⟩
    have HT := Lib.hid (show (w1.heap[w.heap.size]? = some (.cells #[.string ByteArray.empty, .int .i64 0, .int .u16 0] 31 (0, 0))) by rw [hb1.block w.heap.size (by simp)]; exact heap_alloc_last w _)
    have k0 : w1.cell? ⟨b, k * 3, none⟩ = some (.string S) := by rw [hT.name k hk, hS, hC]
    have k1 : w1.cell? ⟨b, k * 3 + 1, none⟩ = some (.int .i64 r) := by rw [hT.ar k hk, hr, hC]
    have k2 : w1.cell? ⟨b, k * 3 + 2, none⟩ = some (.int .u16 g) := by rw [hT.ct k hk, hg, hC]
    have HB1 := Lib.hid (HB0.out.trans (hb1.mono HB0.out.size))
    clear hT hb1 CA HB0 hC hS hr hg HV
    go_wp2_with (with_reducible refine wpList_store_row rfl 31 (.tmp 2) (.tmp 18) rfl w.heap.size #[.string S, .int .i64 r, .int .u16 g] rfl rfl 31 _ HT.out HC.out rfl HOn.out ?_)
    exact bodyPost_ret (results_cell_slot rfl _ _ w.heap.size 31 #[.string S, .int .i64 r, .int .u16 g] (0, 0) _ (.bool true) rfl (setRow_heap w1 w.heap.size _ _ _ _ HT.out) Tryd.underlying31 rfl HC.out rfl) rfl ⟨by rw [HAg.out, HVb.out], below_setRow HB1.out (Nat.le_refl _) _⟩
  · have HV := Lib.hid (show atV id = nil from atV_out hin)
    have HVb := Lib.hid (show atB id = false by unfold atB; exact decide_eq_false hin)
    have HC := Lib.hid (show (Tryd.prog.info? 31).map (·.size) = some (#[.string ⟨#[]⟩, .int .i64 0, .int .u16 0] : Array Value).size from cmd_size)
    have HOn := Lib.hid (show (#[.string ⟨#[]⟩, .int .i64 0, .int .u16 0] : Array Value).all (·.oneCell') = true by simp [Value.oneCell'])
    have tst : decide (id < 0) = true ∨ (decide (id < 0) = false ∧ decide ((56 : Int) ≤ id) = true) := by
      simp only [decide_eq_true_eq, decide_eq_false_iff_not]
      omega
    clear hin
    go_enter Tryd.func10, Tryd.ntmps10
    go_wp2_with fail
    refine (CA.out _).mono ?_
    rintro e w1 ⟨b, c, rfl, hT, hc1, hc2, hb1⟩
    have HT := Lib.hid (show (w1.heap[w.heap.size]? = some (.cells #[.string ByteArray.empty, .int .i64 0, .int .u16 0] 31 (0, 0))) by rw [hb1.block w.heap.size (by simp)]; exact heap_alloc_last w _)
    have HB1 := Lib.hid (HB0.out.trans (hb1.mono HB0.out.size))
    clear hT hb1 CA HB0
    rcases tst with d1 | ⟨d1, d2⟩
    all_goals
      go_wp2_with (with_reducible refine wpList_store_row rfl 31 (.tmp 2) (.tmp 14) rfl w.heap.size #[.string ⟨#[]⟩, .int .i64 0, .int .u16 0] rfl rfl 31 _ HT.out HC.out rfl HOn.out ?_)
      exact bodyPost_ret (results_cell_slot rfl _ _ w.heap.size 31 #[.string ⟨#[]⟩, .int .i64 0, .int .u16 0] (0, 0) _ (.bool false) rfl (setRow_heap w1 w.heap.size _ _ _ _ HT.out) Tryd.underlying31 rfl HC.out rfl) rfl ⟨by rw [HV.out, HVb.out]; rfl, below_setRow HB1.out (Nat.le_refl _) _⟩

end Go.Proofs.YtdhhiodnnnfioaaDoor.RefTab
