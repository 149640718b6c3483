/-
  The document's own 'are these texts the same' (package tipstaffref01).
-/
import Derived.Test.YtodpocciimbjbaaDoorChecked
import Derived.Test.YtodpocciimbjbaaDoorStrRowz
import Derived.BigQuiet
import Derived.Deep.QuietTactic
import Derived.Lib.QuietBelow
namespace Go.Proofs.YtodpocciimbjbaaDoor.StrS
open Go.RowKit Kit StrT
set_option linter.unusedVariables false
set_option maxRecDepth 100000

theorem below_drewN {B : Nat} {a w : World} (h : Below B a w) (q : Nat) : Below B a (w.drewN q) := h.trans ⟨rfl, rfl, rfl, Nat.le_refl _, fun _ _ => rfl⟩
theorem str_eq (a b : List UInt8) : ((⟨a.toArray⟩ : ByteArray).toList != (⟨b.toArray⟩ : ByteArray).toList) = decide (a ≠ b) := by
  rw [ByteArray.toList_eq, ByteArray.toList_eq, Bool.eq_iff_iff, bne_iff_ne, decide_eq_true_eq]
theorem take_eq_iff {X Y : List (List UInt8)} (k : Nat) (hX : k < X.length) (hY : k < Y.length) : X.take (k + 1) = Y.take (k + 1) ↔ X.take k = Y.take k ∧ X[k] = Y[k] := by
  rw [List.take_succ_eq_append_getElem hX, List.take_succ_eq_append_getElem hY]
  constructor
  · intro h
    have := List.append_inj h (by rw [List.length_take, List.length_take]; omega)
    exact ⟨this.1, by simpa using this.2⟩
  · rintro ⟨h1, h2⟩
    rw [h1, h2]
set_option maxHeartbeats 2000000 in
theorem same_texts (q r : Option Addr) (X Y : List (List UInt8)) (n m c d : Nat) (w : World) (hX : X.length = n) (hY : Y.length = m) (h1 : Ss w q X) (h2 : Ss w r Y) (hn : n ≤ 9223372036854775806) :
    Calls Tryd.prog 25 #[.slice q n c, .slice r m d] w fun e w' => e = .returned (.bool (decide (X = Y))) ∧ Below w.heap.size w w' := by
  have HX := Lib.hid hX
  have HY := Lib.hid hY
  have H1 := Lib.hid h1
  have H2 := Lib.hid h2
  clear h1 h2
  by_cases hnm : n = m
  · subst hnm
    have t1 : ((n : Int) != (n : Int)) = false := bne_self_eq_false _
    clear hX hY
    go_enter Tryd.func25, Tryd.ntmps25
    go_wp2_with fail
    go_loopw [5] (fun i wr => ∃ k : Nat, k ≤ n ∧ i = .int .i64 k ∧ Below w.heap.size w wr ∧ Hid (X.take k = Y.take k)) (fun i _ => n - (intOf i).toNat)
    case atStart => exact ⟨0, Nat.zero_le _, rfl, Below.refl _ _, Lib.hid rfl⟩
    case round =>
      obtain ⟨k, hk, rfl, hb, HR⟩ := hrel
      by_cases hlt : k < n
      · have hkx : k < X.length := by rw [HX.out]; exact hlt
        have hky : k < Y.length := by rw [HY.out]; exact hlt
        obtain ⟨b, off, rfl, hbl, hc⟩ := (H1.out.keep hb) (by omega)
        obtain ⟨b2, off2, rfl, hbl2, hc2⟩ := (H2.out.keep hb) (by omega)
        have hu := hc k hkx
        have hv := hc2 k hky
        have he := str_eq X[k] Y[k]
        have hi := take_eq_iff k hkx hky
        obtain ⟨S, hS⟩ : ∃ S : ByteArray, S = ⟨X[k].toArray⟩ := ⟨_, rfl⟩
        obtain ⟨T, hT⟩ : ∃ T : ByteArray, T = ⟨Y[k].toArray⟩ := ⟨_, rfl⟩
        rw [← hS] at hu he
        rw [← hT] at hv he
        clear hS hT hc hc2
        by_cases hxy : X[k] = Y[k]
        · have hE : (S.toList != T.toList) = false := by rw [he]; simp [hxy]
          have hE2 : (S.toList == T.toList) = true := by simpa using hE
          have HN := Lib.hid (hi.2 ⟨HR.out, hxy⟩)
          clear he hi hxy
          go_wp2_with fail
          go_quiet (fail)
          have hbq := below_drewN hb nq
          clear hb hu hv
          generalize wr.drewN nq = wq at hbq ⊢
          go_wp2_with fail
          go_roundw
          case rel => exact ⟨k + 1, by omega, by go_num, hbq, HN⟩
          case measure => simp [intOf]; omega
        · have hE : (S.toList != T.toList) = true := by rw [he]; simp [hxy]
          have hE2 : (S.toList == T.toList) = false := by simpa using hE
          have HF := Lib.hid (show decide (X = Y) = false from decide_eq_false (by rintro rfl; exact hxy rfl))
          clear he hi hxy
          go_wp2_with fail
          go_quiet (fail)
          have hbq := below_drewN hb nq
          clear hb hu hv
          generalize wr.drewN nq = wq at hbq ⊢
          go_wp2_with fail
          go_ret
          exact ⟨ret_bool HF.out.symm, hbq⟩
      · have HF := Lib.hid (show decide (X = Y) = true from decide_eq_true (by
          have h := HR.out
          rwa [List.take_of_length_le (by rw [HX.out]; omega), List.take_of_length_le (by rw [HY.out]; omega)] at h))
        go_wp2_with fail
        go_ret
        exact ⟨ret_bool HF.out.symm, hb⟩
  · have t1 : ((n : Int) != (m : Int)) = true := by rw [bne_iff_ne]; omega
    have HF := Lib.hid (show decide (X = Y) = false from decide_eq_false (by rintro rfl; omega))
    clear hX hY
    go_enter Tryd.func25, Tryd.ntmps25
    go_wp2_with fail
    go_ret
    exact ⟨ret_bool HF.out.symm, Below.refl _ _⟩


end Go.Proofs.YtodpocciimbjbaaDoor.StrS
