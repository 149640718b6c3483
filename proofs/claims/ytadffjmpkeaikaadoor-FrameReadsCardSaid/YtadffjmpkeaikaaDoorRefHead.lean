/-
  The line of a row, as the document's own answers of layer 6 (package tipstaffref06) take it.
-/
import Derived.Test.YtadffjmpkeaikaaDoorFrameT
import Derived.Test.YtadffjmpkeaikaaDoorRef01b
namespace Go.Proofs.YtadffjmpkeaikaaDoor.RefF
open Go.RowKit Kit BytesIn ReplyMath ReplyT NumMath NumL FrameMath FrameT
set_option linter.unusedVariables false
set_option maxRecDepth 100000

def hdN : Hd → Int
  | .is n _ => n
  | _ => 0
def hdAt (A : Nat) : Hd → Int
  | .is _ k => (A : Int) + (k : Int)
  | .part => -1
  | .bad => -2
def HeadP (A : Nat) (h : Hd) (w : World) (e : Ending) (w' : World) : Prop := e = .returned (.tuple #[.int .i64 (hdN h), .int .i64 (hdAt A h)]) ∧ Below w.heap.size w w'
theorem head_bad {A : Nat} {h : Hd} {w w' : World} (e : h = .bad) (hb : Below w.heap.size w w') : HeadP A h w (.returned (.tuple #[.int .i64 0, .int .i64 (-2)])) w' := by
  subst e
  exact ⟨rfl, hb⟩
theorem head_part {A : Nat} {h : Hd} {w w' : World} (e : h = .part) (hb : Below w.heap.size w w') : HeadP A h w (.returned (.tuple #[.int .i64 0, .int .i64 (-1)])) w' := by
  subst e
  exact ⟨rfl, hb⟩
theorem head_is {A n k : Nat} {h : Hd} {w w' : World} {x y : Int} (e : h = .is n k) (hx : x = (n : Int)) (hy : y = (A : Int) + (k : Int)) (hb : Below w.heap.size w w') : HeadP A h w (.returned (.tuple #[.int .i64 x, .int .i64 y])) w' := by
  subst e hx hy
  exact ⟨rfl, hb⟩
theorem byte_ne {k : UInt8} (c : UInt8) (m : Int) (hc : (c.toNat : Int) = m) (h : k ≠ c) : ((k.toNat : Int) == m) = false := by
  rw [beq_eq_false_iff_ne, ← hc]
  intro e
  exact h (UInt8.toNat_inj.1 (by omega))
theorem byte_bne {k : UInt8} (c : UInt8) (m : Int) (hc : (c.toNat : Int) = m) (h : k ≠ c) : ((k.toNat : Int) != m) = true := by
  rw [bne_iff_ne, ← hc]
  intro e
  exact h (UInt8.toNat_inj.1 (by omega))
theorem byte_beq {k : UInt8} (c : UInt8) (m : Int) (hc : (c.toNat : Int) = m) (h : k = c) : ((k.toNat : Int) != m) = false := by
  subst h
  rw [hc, bne_self_eq_false]

theorem headL_some {mark : UInt8} {low high : Int} {l : List UInt8} {i : Nat} (h : find10 16 l = some i) : headL mark low high l = headAt mark low high l i := by unfold headL; rw [h]
theorem headAt_no {mark : UInt8} {low high : Int} {l : List UInt8} {i : Nat} (h : ¬ (2 ≤ i ∧ l[i - 1]? = some 13 ∧ l[0]? = some mark)) : headAt mark low high l i = .bad := by unfold headAt; rw [if_neg h]
theorem headAt_yes {mark : UInt8} {low high : Int} {l : List UInt8} {i : Nat} (h : 2 ≤ i ∧ l[i - 1]? = some 13 ∧ l[0]? = some mark) :
    headAt mark low high l i = if pB ((l.take (i - 1)).drop 1) = true ∧ low ≤ pV ((l.take (i - 1)).drop 1) ∧ pV ((l.take (i - 1)).drop 1) ≤ high then .is (pV ((l.take (i - 1)).drop 1)).toNat (i + 1) else .bad := by
  unfold headAt pV pB
  rw [if_pos h]
  cases hp : parse ((l.take (i - 1)).drop 1) with
  | none => simp
  | some v => simp

set_option maxHeartbeats 4000000 in
theorem rhead (p : Option Addr) (l : List UInt8) (n c A : Nat) (mark : UInt8) (m low high : Int) (w : World) (hn : l.length = n) (hb : Bs w p l) (hc : n ≤ c) (hcm : c ≤ 9223372036854775807) (hz : n ≤ 1048576) (hA : A ≤ n) (hm : m = (mark.toNat : Int)) (hlow : 0 ≤ low) :
    Calls Tryd.prog 37 #[.slice p n c, .int .i64 (A : Int), .int .u8 m, .int .i64 low, .int .i64 high] w (HeadP A (headL mark low high (l.drop A)) w) := by
  have HN := Lib.hid hn
  have HB := Lib.hid hb
  have HM := Lib.hid hm
  clear hb hn hm
  go_enter Tryd.func37, Tryd.ntmps37
  go_wp2_with fail
  go_loopw [12] (fun v wr => ∃ i : Nat, v = .int .i64 i ∧ A ≤ i ∧ i ≤ n ∧ i ≤ A + 16 ∧ wr = w ∧ Hid (∀ j, j < i - A → (l.drop A)[j]? ≠ some 10)) (fun v _ => n - (intOf v).toNat)
  case atStart => exact ⟨A, rfl, Nat.le_refl _, hA, by omega, rfl, Lib.hid (fun j hj => absurd hj (by omega))⟩
  case round =>
    obtain ⟨i, rfl, h1, h2, h3, rfl, HNo⟩ := hrel
    by_cases hlt : i < n ∧ i < A + 16
    · obtain ⟨g1, g2⟩ := hlt
      have d1 : decide ((i : Int) < (n : Int)) = true := decide_eq_true (by omega)
      have d2 : decide ((i : Int) < (A : Int) + 16) = true := decide_eq_true (by omega)
      have hil : i < l.length := by rw [HN.out]; exact g1
      obtain ⟨b, off, rfl, hlt, hcl⟩ := HB.out (by omega)
      obtain ⟨x, hx⟩ : ∃ x, x = l[i] := ⟨_, rfl⟩
      have hcell : wr.cell? ⟨b, off + i, none⟩ = some (.int .u8 (x.toNat : Int)) := by rw [hx]; exact hcl i hil
      have hdi : ∀ j (h : A + j < l.length), (l.drop A)[j]? = some l[A + j] := fun j h => by rw [List.getElem?_drop, List.getElem?_eq_getElem h]
      by_cases h10 : x = 10
      · have t1 := byte_beq 10 10 rfl h10
        have hf : find10 16 (l.drop A) = some (i - A) := by
          refine find10_first (by omega) ?_ HNo.out
          rw [hdi (i - A) (by omega), ← h10, hx]
          congr 1
          congr 1
          omega
        have HF := Lib.hid (headL_some (mark := mark) (low := low) (high := high) hf)
        by_cases hsh : i < A + 2
        · have HX := Lib.hid (head_bad (A := A) (h := headL mark low high (l.drop A)) (w := wr) (w' := wr) (by rw [HF.out]; exact headAt_no (by omega)) (Below.refl _ _))
          have d3 : decide ((i : Int) < (A : Int) + 2) = true := decide_eq_true (by omega)
          clear hcl hx hdi hf h10
          go_wp2_with fail
          go_ret2
          exact HX.out
        · obtain ⟨i', rfl⟩ : ∃ i', i = i' + 1 := ⟨i - 1, by omega⟩
          have d3 : decide ((i' : Int) + 1 < (A : Int) + 2) = false := decide_eq_false (by omega)
          obtain ⟨y, hy⟩ : ∃ y, y = l[i'] := ⟨_, rfl⟩
          have hcell2 : wr.cell? ⟨b, off + i', none⟩ = some (.int .u8 (y.toNat : Int)) := by rw [hy]; exact hcl i' (by omega)
          obtain ⟨z, hzz⟩ : ∃ z, z = l[A] := ⟨_, rfl⟩
          have hcell3 : wr.cell? ⟨b, off + A, none⟩ = some (.int .u8 (z.toNat : Int)) := by rw [hzz]; exact hcl A (by omega)
          have hiy : (l.drop A)[i' + 1 - A - 1]? = some y := by
            rw [hdi (i' + 1 - A - 1) (by omega), hy]
            congr 1
            congr 1
            omega
          have hiz : (l.drop A)[0]? = some z := by rw [hdi 0 (by omega), hzz]; rfl
          by_cases h13 : y = 13
          · have t2 := byte_beq 13 13 rfl h13
            by_cases hmk : z = mark
            · have t3 : ((z.toNat : Int) != m) = false := by rw [HM.out, hmk, bne_self_eq_false]
              obtain ⟨s, hs⟩ : ∃ s, s = (l.drop (A + 1)).take (i' - (A + 1)) := ⟨_, rfl⟩
              have hss : ((l.drop A).take (i' + 1 - A - 1)).drop 1 = s := by
                rw [hs, List.drop_take, List.drop_drop]
                congr 1
                omega
              have hyes := headAt_yes (mark := mark) (low := low) (high := high) (l := l.drop A) (i := i' + 1 - A) ⟨by omega, by rw [hiy, h13], by rw [hiz, hmk]⟩
              rw [hss] at hyes
              have hslen : s.length = i' - (A + 1) := by rw [hs, List.length_take, List.length_drop, HN.out]; omega
              obtain ⟨P, hP⟩ : ∃ P, P = ReplyT.partAt (some ⟨b, off, none⟩) c (A + 1) := ⟨_, rfl⟩
              have q1 : ∀ W, (Instr.slice 22 (.slice (some ⟨b, off, none⟩) n c) (some (.int .i64 ((A : Int) + 1))) (some (.int .i64 (i' : Int))) none).run Tryd.prog W = .ok (.slice P (i' - (A + 1)) (c - (A + 1))) W := fun W => by
                have h := sl_lh (some ⟨b, off, none⟩) n c (A + 1) i' (by omega) (by omega) W
                rw [show ((A + 1 : Nat) : Int) = (A : Int) + 1 by omega, ← hP] at h
                exact h
              have hBs : Bs wr P s := by
                have h := partAt_bs (c := c) HB.out (by rw [HN.out]; exact hc) (A + 1) i' (by omega)
                rw [← hs, ← hP] at h
                exact h
              have c1 := bs_string hBs (i' - (A + 1)) (c - (A + 1)) hslen.symm
              have CP := Lib.hid (Ref01.parse_ref ⟨s.toArray⟩ wr (by rw [size_bytes]; omega))
              rw [show (⟨s.toArray⟩ : ByteArray).data.toList = s from rfl] at CP
              obtain ⟨v, hv⟩ : ∃ v, v = pV s := ⟨_, rfl⟩
              obtain ⟨k, hk⟩ : ∃ k, k = pB s := ⟨_, rfl⟩
              rw [← hv, ← hk] at CP hyes
              have HY := Lib.hid (HF.out.trans hyes)
              clear hcl hx hdi hf h10 hy hzz hiy hiz hs hss hP hyes hBs hv hk HF h13 hmk
              cases k with
              | false =>
                have HX := Lib.hid (fun W hbw => head_bad (A := A) (h := headL mark low high (l.drop A)) (w := wr) (w' := W) (by rw [HY.out]; rfl) hbw)
                go_wp2_with fail
                refine CP.out.mono ?_
                rintro e w1 ⟨rfl, hb1⟩
                go_wp2_with fail
                go_ret2
                exact HX.out _ hb1
              | true =>
                by_cases hl : v < low
                · have HX := Lib.hid (fun W hbw => head_bad (A := A) (h := headL mark low high (l.drop A)) (w := wr) (w' := W) (by rw [HY.out, if_neg (by omega)]) hbw)
                  have d4 : decide (v < low) = true := decide_eq_true hl
                  go_wp2_with fail
                  refine CP.out.mono ?_
                  rintro e w1 ⟨rfl, hb1⟩
                  go_wp2_with fail
                  go_ret2
                  exact HX.out _ hb1
                · have d4 : decide (v < low) = false := decide_eq_false hl
                  by_cases hh : high < v
                  · have HX := Lib.hid (fun W hbw => head_bad (A := A) (h := headL mark low high (l.drop A)) (w := wr) (w' := W) (by rw [HY.out, if_neg (by omega)]) hbw)
                    have d5 : decide (high < v) = true := decide_eq_true hh
                    go_wp2_with fail
                    refine CP.out.mono ?_
                    rintro e w1 ⟨rfl, hb1⟩
                    go_wp2_with fail
                    go_ret2
                    exact HX.out _ hb1
                  · have d5 : decide (high < v) = false := decide_eq_false hh
                    have HX := Lib.hid (fun W hbw => head_is (A := A) (h := headL mark low high (l.drop A)) (w := wr) (w' := W) (x := v) (y := ((i' + 1 : Nat) : Int) + 1) (by rw [HY.out, if_pos ⟨rfl, by omega, by omega⟩]) (by omega) (by omega) hbw)
                    go_wp2_with fail
                    refine CP.out.mono ?_
                    rintro e w1 ⟨rfl, hb1⟩
                    go_wp2_with fail
                    go_ret2
                    exact HX.out _ hb1
            · have HX := Lib.hid (head_bad (A := A) (h := headL mark low high (l.drop A)) (w := wr) (w' := wr) (by rw [HF.out]; exact headAt_no (by rw [hiz]; rintro ⟨-, -, h⟩; injection h with h; exact hmk h)) (Below.refl _ _))
              have t3 : ((z.toNat : Int) != m) = true := by rw [HM.out, bne_iff_ne]; intro e; exact hmk (UInt8.toNat_inj.1 (by omega))
              clear hcl hx hdi hf h10 hy hzz hiy hiz h13 hmk
              go_wp2_with fail
              go_ret2
              exact HX.out
          · have HX := Lib.hid (head_bad (A := A) (h := headL mark low high (l.drop A)) (w := wr) (w' := wr) (by rw [HF.out]; exact headAt_no (by rw [hiy]; rintro ⟨-, h, -⟩; injection h with h; exact h13 h)) (Below.refl _ _))
            have t2 := byte_bne 13 13 rfl h13
            clear hcl hx hdi hf h10 hy hzz hiy hiz h13
            go_wp2_with fail
            go_ret2
            exact HX.out
      · have t1 := byte_bne 10 10 rfl h10
        have HNo2 := Lib.hid (show ∀ j, j < i + 1 - A → (l.drop A)[j]? ≠ some 10 from fun j hj => by
          rcases Nat.lt_or_ge j (i - A) with h | h
          · exact HNo.out j h
          · obtain rfl : j = i - A := by omega
            rw [hdi (i - A) (by omega)]
            intro e
            injection e with e
            refine h10 (hx.trans (Eq.trans ?_ e))
            congr 1
            omega)
        clear hcl hx hdi h10
        go_wp2_with fail
        go_roundw
        case rel => exact ⟨i + 1, by go_num, by omega, by omega, by omega, (by trivial), HNo2⟩
        case measure => simp [intOf]; omega
    · have hf : find10 16 (l.drop A) = none := find10_no (fun j hj => by
        rcases Nat.lt_or_ge j (i - A) with h | h
        · exact HNo.out j h
        · rw [List.getElem?_eq_none (by rw [List.length_drop, HN.out]; omega)]
          simp)
      have hL : headL mark low high (l.drop A) = if 16 ≤ n - A then .bad else .part := by unfold headL; rw [hf, List.length_drop, HN.out]
      by_cases h16 : 16 ≤ n - A
      · have HX := Lib.hid (head_bad (A := A) (h := headL mark low high (l.drop A)) (w := wr) (w' := wr) (by rw [hL, if_pos h16]) (Below.refl _ _))
        have d3 : (16 : Int) ≤ (n : Int) - (A : Int) := by omega
        rcases Nat.lt_or_ge i n with g1 | g1
        · have d1 : decide ((i : Int) < (n : Int)) = true := decide_eq_true (by omega)
          have d2 : decide ((i : Int) < (A : Int) + 16) = false := decide_eq_false (by omega)
          clear hf hL hlt
          go_wp2_with fail
          go_ret2
          exact HX.out
        · have d1 : decide ((i : Int) < (n : Int)) = false := decide_eq_false (by omega)
          clear hf hL hlt
          go_wp2_with fail
          go_ret2
          exact HX.out
      · have HX := Lib.hid (head_part (A := A) (h := headL mark low high (l.drop A)) (w := wr) (w' := wr) (by rw [hL, if_neg h16]) (Below.refl _ _))
        have d3 : ¬ ((16 : Int) ≤ (n : Int) - (A : Int)) := by omega
        have d4 : decide ((16 : Int) ≤ (n : Int) - (A : Int)) = false := decide_eq_false d3
        have d1 : decide ((i : Int) < (n : Int)) = false := decide_eq_false (by omega)
        have g1 : n ≤ i := by omega
        clear hf hL hlt h16
        go_wp2_with fail
        go_ret2
        exact HX.out

end Go.Proofs.YtadffjmpkeaikaaDoor.RefF
