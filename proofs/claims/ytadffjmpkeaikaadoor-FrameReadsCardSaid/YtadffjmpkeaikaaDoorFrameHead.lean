/-
  The landed code of layer 6: frame.head, the line of a row.
-/
import Derived.Test.YtadffjmpkeaikaaDoorFrameSuf
import Derived.Test.YtadffjmpkeaikaaDoorNumParse
namespace Go.Proofs.YtadffjmpkeaikaaDoor.FrameM
open Go.RowKit Kit BytesIn ReplyMath ReplyT NumMath NumL FrameMath FrameT
set_option linter.unusedVariables false
set_option maxRecDepth 100000

/-- What a row's line is answered as. -/
def HeadP (r : Hd) (w : World) (e : Ending) (w' : World) : Prop :=
  Below w.heap.size w w' ∧ match r with
  | .bad => e = .returned (.tuple #[.int .i64 0, .int .i64 0, .int .i64 10])
  | .part => e = .returned (.tuple #[.int .i64 0, .int .i64 0, .int .i64 0])
  | .is n k => e = .returned (.tuple #[.int .i64 (n : Int), .int .i64 (k : Int), .int .i64 0])
theorem head_bad {r : Hd} {w w' : World} (h : r = .bad) (hb : Below w.heap.size w w') : HeadP r w (.returned (.tuple #[.int .i64 0, .int .i64 0, .int .i64 10])) w' := by subst h; exact ⟨hb, rfl⟩
theorem head_part {r : Hd} {w w' : World} (h : r = .part) (hb : Below w.heap.size w w') : HeadP r w (.returned (.tuple #[.int .i64 0, .int .i64 0, .int .i64 0])) w' := by subst h; exact ⟨hb, rfl⟩
theorem head_is {r : Hd} {w w' : World} {n k : Nat} {x y : Int} (h : r = .is n k) (hx : x = (n : Int)) (hy : y = (k : Int)) (hb : Below w.heap.size w w') : HeadP r w (.returned (.tuple #[.int .i64 x, .int .i64 y, .int .i64 0])) w' := by subst h hx hy; exact ⟨hb, rfl⟩

theorem byte_eq {k : UInt8} {m : Nat} (c : UInt8) (hc : c.toNat = m) (h : k = c) : ((k.toNat : Int) == (m : Int)) = true := by rw [h, hc, beq_iff_eq]
theorem bne_yes {a b : UInt8} (h : a ≠ b) : ((a.toNat : Int) != (b.toNat : Int)) = true := by
  rw [bne_iff_ne]
  intro e
  exact h (UInt8.toNat_inj.1 (by omega))
theorem bne_no {a b : UInt8} (h : a = b) : ((a.toNat : Int) != (b.toNat : Int)) = false := by
  subst h
  exact bne_self_eq_false _
theorem headAt_no13 {mark : UInt8} {low high : Int} {l : List UInt8} {i : Nat} (h : cr (l.take i) = false) (hi : i ≤ l.length) : headAt mark low high l i = .bad := by
  rw [cr_take l i hi] at h
  unfold headAt
  rw [if_neg]
  rintro ⟨h1, h2, -⟩
  exact of_decide_eq_false h ⟨by omega, h2⟩
theorem headAt_short {mark : UInt8} {low high : Int} {l : List UInt8} {i : Nat} (h : i ≤ 1) : headAt mark low high l i = .bad := by
  unfold headAt
  rw [if_neg (by omega)]
theorem headAt_mark {mark : UInt8} {low high : Int} {l : List UInt8} {i : Nat} (h : l[0]? ≠ some mark) : headAt mark low high l i = .bad := by
  unfold headAt
  rw [if_neg]
  rintro ⟨-, -, h2⟩
  exact h h2
theorem headAt_of {mark : UInt8} {low high : Int} {l : List UInt8} {i : Nat} (h1 : 2 ≤ i) (hi : i ≤ l.length) (h2 : cr (l.take i) = true) (h3 : l[0]? = some mark) :
    headAt mark low high l i = if pB ((l.take (i - 1)).drop 1) = true then (if low ≤ pV ((l.take (i - 1)).drop 1) ∧ pV ((l.take (i - 1)).drop 1) ≤ high then .is (pV ((l.take (i - 1)).drop 1)).toNat (i + 1) else .bad) else .bad := by
  rw [cr_take l i hi, decide_eq_true_eq] at h2
  unfold headAt
  rw [if_pos ⟨h1, h2.2, h3⟩]
  unfold pB pV
  cases parse ((l.take (i - 1)).drop 1) with
  | none => rfl
  | some v => rfl
theorem headL_at {mark : UInt8} {low high : Int} {l : List UInt8} {i : Nat} (h : find10 16 l = some i) : headL mark low high l = headAt mark low high l i := by unfold headL; rw [h]
theorem headL_none {mark : UInt8} {low high : Int} {l : List UInt8} (h : find10 16 l = none) : headL mark low high l = if 16 ≤ l.length then .bad else .part := by unfold headL; rw [h]

set_option maxHeartbeats 4000000 in
theorem head_any (mark : UInt8) (low high : Int) (p : Option Addr) (l : List UInt8) (n c : Nat) (w : World) (hn : l.length = n) (hb : Bs w p l) (hc : n ≤ c) (hcm : c ≤ 9223372036854775807) (hz : n ≤ 1048576) (hnil : p = none → c = 0) (hlow : 0 ≤ low) (hg : Gd w) :
    Calls Tryd.prog 31 #[.slice p n c, .int .u8 (mark.toNat : Int), .int .i64 low, .int .i64 high] w (HeadP (headL mark low high l) w) := by
  have CL := Lib.hid (line_any 16 p l n c w (by decide) hn hb hc hcm hnil)
  rcases ho : find10 16 l with _ | i
  · have HE := Lib.hid (headL_none (mark := mark) (low := low) (high := high) ho)
    rw [ho] at CL
    by_cases hf : 16 ≤ n
    · have CL2 : Hid (Calls Tryd.prog 34 #[.slice p n c, .int .i64 16] w fun e w' => w' = w ∧ e = .returned (.tuple #[.slice none 0 0, .int .i64 0, .int .i64 10])) := Lib.hid (by
        have h := CL.out
        rw [decide_eq_true hf] at h
        exact h)
      have HX := Lib.hid (show headL mark low high l = .bad by rw [HE.out, if_pos (by omega)])
      clear CL ho hb hg hnil
      go_enter Tryd.func31, Tryd.ntmps31
      go_wp2_with fail
      refine CL2.out.mono ?_
      rintro e w1 ⟨rfl, rfl⟩
      go_wp2_with fail
      go_ret3
      exact head_bad HX.out (Below.refl _ _)
    · have CL2 : Hid (Calls Tryd.prog 34 #[.slice p n c, .int .i64 16] w fun e w' => w' = w ∧ e = .returned (.tuple #[.slice none 0 0, .int .i64 0, .int .i64 0])) := Lib.hid (by
        have h := CL.out
        rw [decide_eq_false hf] at h
        exact h)
      have HX := Lib.hid (show headL mark low high l = .part by rw [HE.out, if_neg (by omega)])
      clear CL ho hb hg hnil
      go_enter Tryd.func31, Tryd.ntmps31
      go_wp2_with fail
      refine CL2.out.mono ?_
      rintro e w1 ⟨rfl, rfl⟩
      go_wp2_with fail
      go_ret3
      exact head_part HX.out (Below.refl _ _)
  · obtain ⟨hi16, hil, -⟩ := find10_some ho
    have HE := Lib.hid (headL_at (mark := mark) (low := low) (high := high) ho)
    rw [ho] at CL
    obtain ⟨P, hP⟩ : ∃ P, P = ReplyT.partAt p c 0 := ⟨_, rfl⟩
    have CL2 : Hid (Calls Tryd.prog 34 #[.slice p n c, .int .i64 16] w fun e w' => w' = w ∧ e = .returned (.tuple #[.slice P i c, .int .i64 ((i : Int) + 1), .int .i64 0])) := Lib.hid (by
      have h := CL.out
      rw [hP]
      exact h)
    have hBP : Bs w P (l.take i) := by
      have h1 := partAt_bs (c := c) hb (by omega) 0 i (by omega)
      rw [List.drop_zero, Nat.sub_zero] at h1
      rwa [hP]
    have hcv := run_const w
    have t0 : ((i : Int) + 1 == 0) = false := by rw [beq_eq_false_iff_ne]; omega
    obtain ⟨W1, hW1⟩ : ∃ W1, W1 = w.alloc (.cells (bv [13]).toArray 5 (1, 2)) := ⟨_, rfl⟩
    have hb1 : Below w.heap.size w W1 := by rw [hW1]; exact below1 _ _
    have CC := cut_cr P (l.take i) i c (some ⟨w.heap.size, 0, none⟩) 1 W1 (by rw [List.length_take]; omega) (hBP.keep hb1) (by omega) (by omega) (by rw [hW1]; exact lit_bs w [13] _ _)
    have hBP1 := hBP.keep hb1
    have HG1 := Lib.hid (hg.keep hb1)
    have HB1 := Lib.hid hb1
    clear CL hb hg hnil hP
    cases hcr : cr (l.take i) with
    | false =>
      rw [hcr, if_neg (by decide)] at CC
      have CC2 : Hid (Calls Tryd.prog 41 #[.slice P i c, .slice (some ⟨w.heap.size, 0, none⟩) 1 1] (w.alloc (.cells #[.int .u8 13] 5 (1, 2))) fun e w' => e = .returned (.tuple #[.slice P i c, .bool false]) ∧ w' = W1) := Lib.hid (by rw [hW1] at CC ⊢; exact CC)
      have HX := Lib.hid (show headL mark low high l = .bad by rw [HE.out]; exact headAt_no13 hcr (by omega))
      clear CC hW1 ho hcr hBP hBP1 hb1 hil
      go_enter Tryd.func31, Tryd.ntmps31
      go_wp2_with fail
      refine CL2.out.mono ?_
      rintro e w1 ⟨rfl, rfl⟩
      go_wp2_with fail
      refine CC2.out.mono ?_
      rintro e w1 ⟨rfl, rfl⟩
      go_wp2_with fail
      go_ret3
      exact head_bad HX.out HB1.out
    | true =>
      rw [hcr, if_pos rfl] at CC
      have CC2 : Hid (Calls Tryd.prog 41 #[.slice P i c, .slice (some ⟨w.heap.size, 0, none⟩) 1 1] (w.alloc (.cells #[.int .u8 13] 5 (1, 2))) fun e w' => e = .returned (.tuple #[.slice P (i - 1) c, .bool true]) ∧ w' = W1) := Lib.hid (by rw [hW1] at CC ⊢; exact CC)
      clear CC hW1
      have hi1 : 1 ≤ i := by
        rw [cr_take l i (by omega), decide_eq_true_eq] at hcr
        exact hcr.1
      by_cases h2 : i = 1
      · subst h2
        have HX := Lib.hid (show headL mark low high l = .bad by rw [HE.out]; exact headAt_short (by omega))
        clear ho hcr hBP hBP1 hb1 hil
        go_enter Tryd.func31, Tryd.ntmps31
        go_wp2_with fail
        refine CL2.out.mono ?_
        rintro e w1 ⟨rfl, rfl⟩
        go_wp2_with fail
        refine CC2.out.mono ?_
        rintro e w1 ⟨rfl, rfl⟩
        go_wp2_with fail
        go_ret3
        exact head_bad HX.out HB1.out
      · have t2 : (((i - 1 : Nat) : Int) == 0) = false := by rw [beq_eq_false_iff_ne]; omega
        obtain ⟨b, off, hPe, hbl, hcell⟩ := hBP1 (by rw [List.length_take]; omega)
        have hc0 := hcell 0 (by rw [List.length_take]; omega)
        rw [Nat.add_zero, List.getElem_take] at hc0
        obtain ⟨k, hk⟩ : ∃ k, k = l[0]'(by omega) := ⟨_, rfl⟩
        rw [← hk] at hc0
        have hk0 : l[0]? = some k := by rw [List.getElem?_eq_getElem (by omega), hk]
        clear hcell hbl
        by_cases hm : k = mark
        · subst hm
          have t3 := bne_no (rfl : k = k)
          have hBD : Bs W1 (ReplyT.partAt P c 1) ((l.take (i - 1)).drop 1) := by
            have h1 := partAt_bs (c := c) hBP1 (by rw [List.length_take]; omega) 1 (i - 1) (by rw [List.length_take]; omega)
            rwa [show ((l.take i).drop 1).take (i - 1 - 1) = (l.take (i - 1)).drop 1 by
              rw [← List.drop_take, List.take_take]
              congr 2
              omega] at h1
          obtain ⟨s, hs⟩ : ∃ s, s = (l.take (i - 1)).drop 1 := ⟨_, rfl⟩
          have HE2 := Lib.hid (show headL k low high l = if pB s = true then (if low ≤ pV s ∧ pV s ≤ high then .is (pV s).toNat (i + 1) else .bad) else .bad by rw [HE.out, hs]; exact headAt_of (by omega) (by omega) hcr hk0)
          have hsl : s.length = i - 2 := by rw [hs, List.length_drop, List.length_take]; omega
          rw [← hs] at hBD
          have hpa : ReplyT.partAt P c 1 = some ⟨b, off + 1, none⟩ := by rw [hPe]; unfold ReplyT.partAt; rw [if_neg (by omega)]; simp [Addr.add_lit]
          have q1 : ∀ W, (Instr.slice 22 (.slice (some ⟨b, off, none⟩) (i - 1) c) (some (.int .i64 1)) none none).run Tryd.prog W = .ok (.slice (some ⟨b, off + 1, none⟩) (i - 1 - 1) (c - 1)) W := fun W => by
            have h := sl_l P (i - 1) c 1 (by omega) W
            rw [hpa, hPe] at h
            exact h
          rw [hpa] at hBD
          have hc1 : c ≠ 1 := by omega
          have c1 := bs_string hBD (i - 1 - 1) (c - 1) (by omega)
          clear hpa
          have CP := parse_any ⟨s.toArray⟩ (by rw [size_bytes]; omega) W1 HG1.out
          rw [show (⟨s.toArray⟩ : ByteArray).data.toList = s from rfl] at CP
          have CP := Lib.hid CP
          obtain ⟨S, hS⟩ : ∃ S : ByteArray, S = ⟨s.toArray⟩ := ⟨_, rfl⟩
          rw [← hS] at CP c1
          obtain ⟨x, hx⟩ : ∃ x, x = pV s := ⟨_, rfl⟩
          obtain ⟨bb, hbb⟩ : ∃ bb, bb = pB s := ⟨_, rfl⟩
          rw [← hx, ← hbb] at CP HE2
          subst hPe
          clear ho hcr hBP hBP1 hb1 hil hk hk0 hBD hs hS hsl hx hbb HE
          cases bb with
          | false =>
            have HX := Lib.hid (show headL k low high l = .bad by rw [HE2.out, if_neg (by decide)])
            go_enter Tryd.func31, Tryd.ntmps31
            go_wp2_with fail
            refine CL2.out.mono ?_
            rintro e w1 ⟨rfl, rfl⟩
            go_wp2_with fail
            refine CC2.out.mono ?_
            rintro e w1 ⟨rfl, rfl⟩
            go_wp2_with fail
            refine CP.out.mono ?_
            rintro e w2 ⟨rfl, hb2⟩
            go_wp2_with fail
            go_ret3
            exact head_bad HX.out (HB1.out.trans (hb2.mono HB1.out.size))
          | true =>
            by_cases hl : x < low
            · have HX := Lib.hid (show headL k low high l = .bad by rw [HE2.out, if_pos rfl, if_neg (by omega)])
              have t4 : decide (x < low) = true := decide_eq_true hl
              go_enter Tryd.func31, Tryd.ntmps31
              go_wp2_with fail
              refine CL2.out.mono ?_
              rintro e w1 ⟨rfl, rfl⟩
              go_wp2_with fail
              refine CC2.out.mono ?_
              rintro e w1 ⟨rfl, rfl⟩
              go_wp2_with fail
              refine CP.out.mono ?_
              rintro e w2 ⟨rfl, hb2⟩
              go_wp2_with fail
              go_ret3
              exact head_bad HX.out (HB1.out.trans (hb2.mono HB1.out.size))
            · have t4 : decide (x < low) = false := decide_eq_false hl
              by_cases hh : high < x
              · have HX := Lib.hid (show headL k low high l = .bad by rw [HE2.out, if_pos rfl, if_neg (by omega)])
                have t5 : decide (high < x) = true := decide_eq_true hh
                go_enter Tryd.func31, Tryd.ntmps31
                go_wp2_with fail
                refine CL2.out.mono ?_
                rintro e w1 ⟨rfl, rfl⟩
                go_wp2_with fail
                refine CC2.out.mono ?_
                rintro e w1 ⟨rfl, rfl⟩
                go_wp2_with fail
                refine CP.out.mono ?_
                rintro e w2 ⟨rfl, hb2⟩
                go_wp2_with fail
                go_ret3
                exact head_bad HX.out (HB1.out.trans (hb2.mono HB1.out.size))
              · have HX := Lib.hid (show headL k low high l = .is x.toNat (i + 1) by rw [HE2.out, if_pos rfl, if_pos (by omega)])
                have t5 : decide (high < x) = false := decide_eq_false hh
                have HXX := Lib.hid (show x = (x.toNat : Int) by omega)
                go_enter Tryd.func31, Tryd.ntmps31
                go_wp2_with fail
                refine CL2.out.mono ?_
                rintro e w1 ⟨rfl, rfl⟩
                go_wp2_with fail
                refine CC2.out.mono ?_
                rintro e w1 ⟨rfl, rfl⟩
                go_wp2_with fail
                refine CP.out.mono ?_
                rintro e w2 ⟨rfl, hb2⟩
                go_wp2_with fail
                go_ret3
                exact head_is HX.out HXX.out (by omega) (HB1.out.trans (hb2.mono HB1.out.size))
        · have t3 := bne_yes hm
          have HX := Lib.hid (show headL mark low high l = .bad by rw [HE.out]; exact headAt_mark (by rw [hk0]; intro e; exact hm (Option.some.inj e)))
          subst hPe
          clear ho hcr hBP hBP1 hb1 hil hk hk0
          go_enter Tryd.func31, Tryd.ntmps31
          go_wp2_with fail
          refine CL2.out.mono ?_
          rintro e w1 ⟨rfl, rfl⟩
          go_wp2_with fail
          refine CC2.out.mono ?_
          rintro e w1 ⟨rfl, rfl⟩
          go_wp2_with fail
          go_ret3
          exact head_bad HX.out HB1.out

end Go.Proofs.YtadffjmpkeaikaaDoor.FrameM
