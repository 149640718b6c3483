/-
  What the laws of layer 6 share: the document's examples, clipped arguments, whether two rows of texts are the same; over contracts of the landed code (FrameCode).
-/
import Derived.Test.YtadffjmpkeaikaaDoorFrameCode
import Derived.Test.YtadffjmpkeaikaaDoorRefTexts
import Derived.Laws.Slices
import Derived.Laws.Strings2
import Derived.BigQuiet
import Derived.Deep.QuietTactic
namespace Go.Proofs.YtadffjmpkeaikaaDoor.FrameL
open Go.RowKit Kit BytesIn ReplyMath ReplyT NumMath NumL FrameMath FrameT FrameM
set_option linter.unusedVariables false
set_option maxRecDepth 100000

theorem nextP_is {ws : List (List UInt8)} {k : Nat} {w w' : World} {e : Ending} (h : NextP (.is ws k) w e w') : ∃ v, e = .returned (.tuple #[v, .int .i64 (k : Int), .int .i64 0]) ∧ AnsS w.heap.size w' v ws ∧ Below w.heap.size w w' := h
theorem nextP_part {w w' : World} {e : Ending} (h : NextP .part w e w') : ∃ v, e = .returned (.tuple #[v, .int .i64 0, .int .i64 0]) ∧ AnsS w.heap.size w' v [] ∧ Below w.heap.size w w' := h
theorem nextP_bad {w w' : World} {e : Ending} (h : NextP .bad w e w') : ∃ v, e = .returned (.tuple #[v, .int .i64 0, .int .i64 10]) ∧ AnsS w.heap.size w' v [] ∧ Below w.heap.size w w' := h
theorem ping_is : nextL [80, 73, 78, 71, 13, 10] = .is [[80, 73, 78, 71]] 6 := next_line [80, 73, 78, 71] [] true (by decide) (by decide) (by decide) (by decide) (by decide)
theorem pi_part : nextL [42, 49, 13, 10, 36, 52, 13, 10, 80, 73] = .part :=
  next_part [[80, 73, 78, 71]] [42, 49, 13, 10, 36, 52, 13, 10, 80, 73] [78, 71, 13, 10] (by decide) (by decide) (by decide) (by decide +kernel) (by decide)
theorem none_bad : nextL [42, 48, 13, 10] = .bad := by
  have h := next_many [] [] (Or.inl rfl) (by decide)
  rwa [show texts [] ++ [] = [42, 48, 13, 10] by decide +kernel] at h

set_option maxHeartbeats 2000000 in
theorem shown_any (w : World) (hg : Gd w) : Calls Tryd.prog 9 #[] w fun e w' => e = .returned (.bool true) ∧ Below w.heap.size w w' := by
  have lit : ∀ (l : List UInt8) (n : Nat) (r : Rq) (hl : l.length = n) (hz : n ≤ 100) (hr : nextL l = r) (W : World) (hbw : Below w.heap.size w W), Calls Tryd.prog 12 #[.slice (some ⟨W.heap.size, 0, none⟩) n n] (W.alloc (.cells (bv l).toArray 5 (n, n + 1))) (NextP r (W.alloc (.cells (bv l).toArray 5 (n, n + 1)))) := fun l n r hl hz hr W hbw => by
    subst hr
    exact next_any (some ⟨W.heap.size, 0, none⟩) l n n _ hl (lit_bs W l _ _) (Nat.le_refl _) (by omega) (by omega) (fun h => by cases h) (hg.keep (hbw.alloc hbw.size _))
  have C1 := Lib.hid (lit [80, 73, 78, 71, 13, 10] 6 _ rfl (by decide) ping_is w (Below.refl _ _))
  have C2 := Lib.hid (lit [42, 49, 13, 10, 36, 52, 13, 10, 80, 73] 10 _ rfl (by decide) pi_part)
  have C3 := Lib.hid (lit [42, 48, 13, 10] 4 _ rfl (by decide) none_bad)
  have HG := Lib.hid hg
  have B1 := Lib.hid (below1 w (.cells (bv [80, 73, 78, 71, 13, 10]).toArray 5 (6, 7)))
  have hcv := run_const w
  clear lit hg
  go_enter Tryd.func9, Tryd.ntmps9
  go_wp2_with fail
  refine C1.out.mono ?_
  intro e w1 hp
  obtain ⟨v1, rfl, ha1, hb1⟩ := nextP_is hp
  have hb1' := B1.out.trans (hb1.mono B1.out.size)
  have hcv1 := run_const w1
  clear hp hcv hb1
  go_wp2_with fail
  refine (C2.out w1 hb1').mono ?_
  intro e w2 hp
  obtain ⟨v2, rfl, ha2, hb2⟩ := nextP_part hp
  have hk2 := (below1 w1 (.cells (bv [42, 49, 13, 10, 36, 52, 13, 10, 80, 73]).toArray 5 (10, 11))).trans (hb2.mono (by simp))
  have hb2' := hb1'.trans (hk2.mono hb1'.size)
  have ha12 := ha1.keep hk2
  have hcv2 := run_const w2
  clear hp hcv1 hb2 ha1 ha2 hk2
  go_wp2_with fail
  refine (C3.out w2 hb2').mono ?_
  intro e w3 hp
  obtain ⟨v3, rfl, ha3, hb3⟩ := nextP_bad hp
  have hk3 := (below1 w2 (.cells (bv [42, 48, 13, 10]).toArray 5 (4, 5))).trans (hb3.mono (by simp))
  have hb3' := hb2'.trans (hk3.mono hb2'.size)
  have ha13 := ha12.keep hk3
  obtain ⟨q, c, rfl, hS, -⟩ := ha13
  obtain ⟨b, off, rfl, hlt, hcell⟩ := hS (by decide)
  have hcell0 : w3.cell? ⟨b, off, none⟩ = some (.string ⟨#[80, 73, 78, 71]⟩) := hcell 0 (by decide)
  have CN := Lib.hid (new_some w3 (HG.out.keep hb3'))
  have t1 : ((⟨#[80, 73, 78, 71]⟩ : ByteArray).toList == [80, 73, 78, 71]) = true := by rw [ByteArray.toList_eq]; rfl
  clear hp hcv2 hb3 ha3 hk3 ha12 hS hcell
  go_wp2_with fail
  refine CN.out.mono ?_
  rintro e w4 ⟨a, rfl, hb4⟩
  go_wp2_with fail
  go_ret
  exact ⟨rfl, hb3'.trans (hb4.mono hb3'.size)⟩

theorem short_yes (p : Option Addr) (n c : Nat) (w : World) (hc : n ≤ c) (h : 1500 < n) : Calls Tryd.prog 10 #[.slice p n c] w fun e w' => e = .returned (.slice p 1500 c) ∧ w' = w := by
  have hc2 : 1500 ≤ c := by omega
  have h1 : (1500 : Int) < (n : Int) := by omega
  go_enter Tryd.func10, Tryd.ntmps10
  go_wp2_with fail
  go_ret
  exact ⟨rfl, rfl⟩
theorem short_no (p : Option Addr) (n c : Nat) (w : World) (h : ¬ 1500 < n) : Calls Tryd.prog 10 #[.slice p n c] w fun e w' => e = .returned (.slice p n c) ∧ w' = w := by
  have h1 : ¬ ((1500 : Int) < (n : Int)) := by omega
  go_enter Tryd.func10, Tryd.ntmps10
  go_wp2_with fail
  go_ret
  exact ⟨rfl, rfl⟩
/-- What 'short' leaves. -/
theorem short_any (p : Option Addr) (l : List UInt8) (n c : Nat) (w : World) (hn : l.length = n) (hb : Bs w p l) (hc : n ≤ c) (hcm : c ≤ 9223372036854775807) (hnil : p = none → c = 0) :
    Calls Tryd.prog 10 #[.slice p n c] w fun e w' => w' = w ∧ ∃ q m, e = .returned (.slice q m c) ∧ (l.take 1500).length = m ∧ Bs w q (l.take 1500) ∧ m ≤ 1500 ∧ m ≤ c ∧ (q = none → c = 0) := by
  by_cases h : 1500 < n
  · refine (short_yes p n c w hc h).mono ?_
    rintro e w' ⟨he, hw⟩
    exact ⟨hw, _, 1500, he, by rw [List.length_take, hn]; omega, ReplyT.Bs.take hb 1500, Nat.le_refl _, by omega, hnil⟩
  · refine (short_no p n c w h).mono ?_
    rintro e w' ⟨he, hw⟩
    refine ⟨hw, _, n, he, by rw [List.length_take, hn]; omega, ?_, by omega, hc, hnil⟩
    rw [List.take_of_length_le (by omega)]
    exact hb

end Go.Proofs.YtadffjmpkeaikaaDoor.FrameL
