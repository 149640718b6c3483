/-
  The row of commands, as the document's own answers of layer 7 (package tipstaffref07) make it.
-/
import Derived.Test.YthiaflnlmabikaaDoorTableMath
import Derived.Test.YthiaflnlmabikaaDoorReplyT
import Derived.Test.YthiaflnlmabikaaDoorRow
import Derived.Laws.Rows
import Derived.Laws.Tables
namespace Go.Proofs.YthiaflnlmabikaaDoor.RefTab
open Go.RowKit Kit BytesIn ReplyT TableMath
set_option linter.unusedVariables false
set_option maxRecDepth 100000

theorem cmd_parts : (Tryd.prog.info? 67).map (fun i => (i.zero, i.size, i.bytes)) = some (some (.agg #[.string ByteArray.empty, .int .i64 0, .int .u16 0]), 3, 32) := by kernel_rfl
theorem cmd_size : (Tryd.prog.info? 67).map (·.size) = some 3 := by kernel_rfl

set_option maxHeartbeats 1000000 in
theorem one_no (s : ByteArray) (n g : Int) (w : World) (h0 : 0 ≤ g) (h1 : g ≤ 60000) :
    Calls Tryd.prog 47 #[.string s, .int .i64 n, .int .u16 g, .bool false] w fun e w' => e = .returned (.agg #[.string s, .int .i64 n, .int .u16 (g + 1)]) ∧ Below w.heap.size w w' := by
  have HC := Lib.hid (show (Tryd.prog.info? 67).map (·.size) = some (#[.string s, .int .i64 n, .int .u16 (g + 1)] : Array Value).size from cmd_size)
  have HO := Lib.hid (show (#[.string s, .int .i64 n, .int .u16 (g + 1)] : Array Value).all (·.oneCell') = true by simp [Value.oneCell'])
  have HW := Lib.hid (Kit.below1 w (.cells #[.string ByteArray.empty, .int .i64 0, .int .u16 0] 67))
  go_enter Tryd.func47, Tryd.ntmps47
  go_wp2_with (with_reducible refine wpList_store_row rfl 67 (.tmp 8) (.tmp 19) rfl w.heap.size #[.string s, .int .i64 n, .int .u16 (g + 1)] rfl rfl 67 _ (heap_alloc_last _ _) HC.out rfl HO.out ?_)
  exact bodyPost_ret (results_cell_row rfl _ _ w.heap.size 67 #[.string s, .int .i64 n, .int .u16 (g + 1)] (0, 0) _ rfl (setRow_heap _ w.heap.size _ _ _ _ (heap_alloc_last _ _)) Tryd.underlying67 rfl HC.out) rfl ⟨rfl, below_setRow HW.out (Nat.le_refl _) _⟩
set_option maxHeartbeats 1000000 in
theorem one_yes (s : ByteArray) (n g : Int) (w : World) (h0 : 0 ≤ g) (h1 : g ≤ 60000) :
    Calls Tryd.prog 47 #[.string s, .int .i64 n, .int .u16 g, .bool true] w fun e w' => e = .returned (.agg #[.string s, .int .i64 n, .int .u16 (g + 2)]) ∧ Below w.heap.size w w' := by
  have HC := Lib.hid (show (Tryd.prog.info? 67).map (·.size) = some (#[.string s, .int .i64 n, .int .u16 (g + 2)] : Array Value).size from cmd_size)
  have HO := Lib.hid (show (#[.string s, .int .i64 n, .int .u16 (g + 2)] : Array Value).all (·.oneCell') = true by simp [Value.oneCell'])
  have HW := Lib.hid (Kit.below1 w (.cells #[.string ByteArray.empty, .int .i64 0, .int .u16 0] 67))
  go_enter Tryd.func47, Tryd.ntmps47
  go_wp2_with (with_reducible refine wpList_store_row rfl 67 (.tmp 8) (.tmp 14) rfl w.heap.size #[.string s, .int .i64 n, .int .u16 (g + 2)] rfl rfl 67 _ (heap_alloc_last _ _) HC.out rfl HO.out ?_)
  exact bodyPost_ret (results_cell_row rfl _ _ w.heap.size 67 #[.string s, .int .i64 n, .int .u16 (g + 2)] (0, 0) _ rfl (setRow_heap _ w.heap.size _ _ _ _ (heap_alloc_last _ _)) Tryd.underlying67 rfl HC.out) rfl ⟨rfl, below_setRow HW.out (Nat.le_refl _) _⟩

theorem lit_cells (W : World) (C : Array Value) (t : TypeId) (g : Nat) (hg : W.heap.size = g) : ∀ j u, C.toList[j]? = some u → (W.alloc (.cells C t)).cell? ((⟨g, 0, none⟩ : Addr).add j) = some u := fun j u h => by
  subst hg
  rw [Addr.add_lit, cell_of_row _ _ _ _ t _ (heap_alloc_last W _)]
  simpa using h
theorem all_one (C : Array Value) (h : C.toList.all (·.oneCell') = true) : ∀ u ∈ C.toList, u.oneCell' = true := fun u hu => List.all_eq_true.1 h u hu
theorem own_tab {w : World} {base : Nat} {t : TypeId} {v : Value} {xs : List Value} (h : w.ownsRow base t 3 v 56 xs) (hx : xs = flatV cmds) : ∃ b c, v = .slice (some ⟨b, 0, none⟩) 56 c ∧ Tab w b ∧ 56 ≤ c ∧ c ≤ 9223372036854775807 := by
  subst hx
  rcases id h.2 with ⟨e, h0⟩ | ⟨g, cap, cur, rfl, hgb, hh, h1, h2, -⟩
  · cases h0
  · refine ⟨g, cap, rfl, ⟨?_, fun j hj => World.ownsRow.cellAt h j (by omega)⟩, h1, by unfold maxLen at h2; omega⟩
    rcases Nat.lt_or_ge g w.heap.size with h' | h'
    · exact h'
    · rw [Array.getElem?_eq_none h'] at hh; cases hh
set_option maxHeartbeats 8000000 in
theorem all_any (w : World) : Calls Tryd.prog 40 #[] w fun e w' => ∃ b c, e = .returned (.slice (some ⟨b, 0, none⟩) 56 c) ∧ Tab w' b ∧ 56 ≤ c ∧ c ≤ 9223372036854775807 ∧ Below w.heap.size w w' := by
  obtain ⟨i0, hi0, hz0, hz1, hzb⟩ := info_parts cmd_parts
  have hb := Below.refl w.heap.size w
  go_enter Tryd.func40, Tryd.ntmps40
  go_wp2_with fail
  iterate 42
    first
      | (with_reducible refine (one_no _ _ _ _ (by decide) (by decide)).mono ?_)
      | (with_reducible refine (one_yes _ _ _ _ (by decide) (by decide)).mono ?_)
    rintro e w1 ⟨rfl, hb1⟩
    replace hb := hb.trans (hb1.mono hb.size)
    clear hb1
    go_wp2_with fail
  with_reducible refine (one_yes _ _ _ _ (by decide) (by decide)).mono ?_
  rintro e w1 ⟨rfl, hb1⟩
  replace hb := hb.trans (hb1.mono hb.size)
  clear hb1
  go_wp2_with (at_builtin; refine wpList_append_own _ rfl (.tmp 61) (.tmp 62) 74 rfl w.heap.size 67 i0 _ 3 32 Tryd.underlying74 hi0 hz0 hz1 hzb rfl (by decide) _ 43 _ rfl (World.ownsRow.alloc (World.ownsRow_lit w1 _ 43 hb.size (by decide) rfl) _) ⟨w1.heap.size + 1, 0, none⟩ 13 13 _ rfl rfl (lit_cells (w1.alloc _) _ _ _ (by simp)) (all_one _ rfl) (by decide) (by decide) (by simp; have := hb.size; omega) ?_; intro v' w2 hown hgrow _)
  obtain ⟨b, c, rfl, hT, h1, h2⟩ := own_tab hown rfl
  have hbe : Below w.heap.size w w2 := ((hb.alloc hb.size _).alloc (by simp; have := hb.size; omega) _).grown hgrow (by simp; have := hb.size; omega) (fun k hk => by have hk : some w1.heap.size = some k := hk; injection hk with hk; subst hk; exact hb.size)
  clear hown hgrow hb
  go_wp2_with fail
  go_ret
  exact ⟨b, c, rfl, hT, h1, h2, hbe⟩

end Go.Proofs.YthiaflnlmabikaaDoor.RefTab
