/-
  Layer 5's Take: reply.size and reply.Take.
-/
import Derived.Test.YteojijocoamohaaDoorReplyPiece
import Derived.Test.YteojijocoamohaaDoorRefTake
import Derived.Deep.RegionHeld
namespace Go.Proofs.YteojijocoamohaaDoor.ReplyM
open Go.RowKit Kit BytesIn ReplyMath ReplyT NumMath NumL BytesA
set_option linter.unusedVariables false
set_option maxRecDepth 100000

/-- What Take asks of the world: numbers, and runes. -/
structure Gx (w : World) : Prop where
  g : Gd w
  u : Ut w
theorem Gx.keep {w w' : World} (h : Gx w) (hb : Below w.heap.size w w') : Gx w' := ⟨h.g.keep hb, h.u.keep hb⟩

def SizeP (l : List UInt8) (n : Nat) (w : World) (e : Ending) (w' : World) : Prop :=
  Below w.heap.size w w' ∧ ((∃ X : Nat, X ≤ n ∧ Skips 1 l (l.drop X) ∧ e = .returned (.tuple #[.int .i64 (X : Int), .bool true])) ∨ ((∀ r, ¬ Skips 1 l r) ∧ e = .returned (.tuple #[.int .i64 0, .bool false])))
theorem far_no {l r : List UInt8} {X Y m k n : Nat} (h : RefR.LeftAt l X (m + 1)) (ho : one (l.drop X) = some (r, k)) (hr : r = l.drop Y) (hn : l.length = n) (hY : Y ≤ n) (hk : (n : Int) - (Y : Int) - (m : Int) < (k : Int)) (t : List UInt8) : ¬ Skips 1 l t := fun hs => by
  obtain ⟨x, e, hx, -⟩ := ((h.step ho hr t).1 hs).split
  have e2 := congrArg List.length e
  rw [List.length_drop, List.length_append, hn] at e2
  omega

set_option maxHeartbeats 4000000 in
theorem size_any (p : Option Addr) (l : List UInt8) (n c : Nat) (w : World) (hn : l.length = n) (hb : Bs w p l) (hc : n ≤ c) (hcm : c ≤ 9223372036854775807) (hz : n ≤ 1048576) (hnil : p = none → c = 0) (hg : Gx w) :
    Calls Tryd.prog 29 #[.slice p n c] w (SizeP l n w) := by
  have HN := Lib.hid hn
  have HB := Lib.hid hb
  have HNil := Lib.hid hnil
  have HG := Lib.hid hg
  clear hb hn hnil hg
  go_enter Tryd.func29, Tryd.ntmps29
  go_wp2_with fail
  go_loopw [4, 5] (fun i j wr => ∃ X m : Nat, i = .int .i64 X ∧ j = .int .i64 m ∧ X ≤ n ∧ m ≤ n + 1 ∧ Hid (RefR.LeftAt l X m) ∧ Below w.heap.size w wr) (fun i _ _ => n - (intOf i).toNat)
  case atStart => exact ⟨0, 1, rfl, rfl, Nat.zero_le _, by omega, Lib.hid (RefR.LeftAt.start l), Below.refl _ _⟩
  case round =>
    obtain ⟨X, m, rfl, rfl, hX, hm, HLf, hbr⟩ := hrel
    have HBr := Lib.hid hbr
    have hbs := hbr.size
    rcases Nat.eq_zero_or_pos m with h0 | h0
    · subst h0
      have HF := Lib.hid HLf.out.fin
      clear hbr
      go_wp2_with fail
      go_ret2
      exact ⟨HBr.out, Or.inl ⟨X, hX, HF.out, rfl⟩⟩
    · obtain ⟨m', rfl⟩ : ∃ m', m = m' + 1 := ⟨m - 1, by omega⟩
      have d1 : decide ((0 : Int) < ((m' + 1 : Nat) : Int)) = true := decide_eq_true (by omega)
      have q1 := fun W => sl_l p n c X hX W
      have hdl : (l.drop X).length = n - X := by rw [List.length_drop, HN.out]
      have hBs : Bs wr (ReplyT.partAt p c X) (l.drop X) := by
        have h1 := partAt_bs (c := c) (HB.out.keep hbr) (by rw [HN.out]; exact hc) X n (by rw [HN.out]; exact Nat.le_refl _)
        rwa [List.take_of_length_le (by rw [hdl]; exact Nat.le_refl _)] at h1
      have CP := Lib.hid (piece_any (ReplyT.partAt p c X) (l.drop X) (n - X) (c - X) wr hdl hBs (by omega) (by omega) (by omega) (fun h => partAt_none HNil.out h) (HG.out.keep hbr).g (HG.out.keep hbr).u)
      obtain ⟨P1, hP1⟩ : ∃ P1, P1 = ReplyT.partAt p c X := ⟨_, rfl⟩
      rw [← hP1] at CP q1
      clear hP1 hBs hbr
      rcases ho : one (l.drop X) with _ | ⟨r, k⟩
      · rw [ho] at CP
        have HNo := Lib.hid (HLf.out.no ho)
        clear ho hdl
        go_wp2_with fail
        refine CP.out.mono ?_
        rintro e w1 ⟨hb1, x, y, rfl⟩
        go_wp2_with fail
        go_ret2
        exact ⟨HBr.out.trans (hb1.mono hbs), Or.inr ⟨HNo.out, rfl⟩⟩
      · rw [ho] at CP
        obtain ⟨x, hx, hx3, -⟩ := one_split ho
        have hlen := congrArg List.length hx
        rw [hdl, List.length_append] at hlen
        obtain ⟨Y, hY⟩ : ∃ Y, Y + r.length = n := ⟨n - r.length, by omega⟩
        have hr : r = l.drop Y := by
          have h := congrArg (List.drop x.length) hx
          rw [List.drop_drop, List.drop_left, show X + x.length = Y by omega] at h
          exact h.symm
        have HL2 := Lib.hid (HLf.out.step ho hr)
        have hXY : X + 1 ≤ Y := by omega
        have hYn : Y ≤ n := by omega
        have HFar := Lib.hid (fun h => far_no HLf.out ho hr HN.out hYn (k := k) h)
        obtain ⟨v, hv⟩ : ∃ v : Int, v = ((n - X : Nat) : Int) - (r.length : Int) := ⟨_, rfl⟩
        have CP2 : Hid (Calls Tryd.prog 39 #[.slice P1 (n - X) (c - X)] wr fun e w' => Below wr.heap.size wr w' ∧ e = .returned (.tuple #[.int .i64 v, .int .i64 (k : Int), .bool true])) := Lib.hid (by rw [hv]; exact CP.out)
        have e1 : IntKind.i64.wrap ((X : Int) + v) = (Y : Int) := by rw [show (X : Int) + v = (Y : Int) by omega]; exact IntWalk.i64_in _ (by omega)
        have e2 : IntKind.i64.wrap (((m' + 1 : Nat) : Int) - 1) = (m' : Int) := by rw [show ((m' + 1 : Nat) : Int) - 1 = (m' : Int) by omega]; exact IntWalk.i64_in _ (by omega)
        clear ho hx hx3 hlen hY hr HLf CP hdl hv
        by_cases hfar : (n : Int) - (Y : Int) - (m' : Int) < (k : Int)
        · have HNo := Lib.hid (HFar.out hfar)
          go_wp2_with fail
          refine CP2.out.mono ?_
          rintro e w1 ⟨hb1, rfl⟩
          go_wp2_with fail
          go_ret2
          exact ⟨HBr.out.trans (hb1.mono hbs), Or.inr ⟨HNo.out, rfl⟩⟩
        · have hk : m' + k ≤ n := by omega
          go_wp2_with fail
          refine CP2.out.mono ?_
          rintro e w1 ⟨hb1, rfl⟩
          go_wp2_with fail
          go_roundw
          case rel => exact ⟨Y, m' + k, rfl, by go_num, hYn, by omega, HL2, HBr.out.trans (hb1.mono hbs)⟩
          case measure => simp [intOf]; omega

set_option maxHeartbeats 4000000 in
theorem take_all (p : Option Addr) (l : List UInt8) (n c : Nat) (w : World) (hn : l.length = n) (hb : Bs w p l) (hc : n ≤ c) (hcm : c ≤ 9223372036854775807) (hz : n ≤ 1048576) (hnil : p = none → c = 0) (hg : Gx w) :
    Calls Tryd.prog 11 #[.slice p n c] w (TakeP l w) := by
  have CS := Lib.hid (size_any p l n c w hn hb hc hcm hz hnil hg)
  have HN := Lib.hid hn
  have HB := Lib.hid hb
  have HNil := Lib.hid hnil
  clear hb hn hnil hg
  go_enter Tryd.func11, Tryd.ntmps11
  go_wp2_with fail
  refine CS.out.mono ?_
  rintro e w1 ⟨hb1, ⟨X, hX, hs, rfl⟩ | ⟨hno, rfl⟩⟩
  · have HF := Lib.hid hs
    have HB1 := Lib.hid hb1
    have hbs := hb1.size
    have q1 := fun W => sl_h p n c X (by omega) W
    have q2 := fun W => sl_l p n c X hX W
    have HM1 := Lib.hid (show (l.take X).length = X by rw [List.length_take, HN.out]; omega)
    have HM2 := Lib.hid (show (l.drop X).length = n - X by rw [List.length_drop, HN.out])
    have HTD := Lib.hid (show l = l.take X ++ l.drop X from (List.take_append_drop X l).symm)
    have C1 := Lib.hid (fun W (h : Below w1.heap.size w1 W) => (clone_any (ReplyT.partAt p c 0) (l.take X) X c W HM1.out (by
      have h1 := partAt_bs (c := c) (HB.out.keep (hb1.trans (h.mono hbs))) (by rw [HN.out]; exact hc) 0 X (by rw [HN.out]; exact hX)
      rwa [List.drop_zero, Nat.sub_zero] at h1) (by omega)).mono (R' := fun e w' => ∃ v, e = .returned v ∧ Ans w.heap.size w' v (l.take X) ∧ Below w1.heap.size w1 w' ∧ Below W.heap.size W w') (by
        rintro e w' ⟨v, he, ha, hbb⟩
        exact ⟨v, he, ha.base (Nat.le_trans hbs h.size), h.trans (hbb.mono h.size), hbb⟩))
    have C2 := Lib.hid (fun W (h : Below w1.heap.size w1 W) => (clone_any (ReplyT.partAt p c X) (l.drop X) (n - X) (c - X) W HM2.out (by
      have h1 := partAt_bs (c := c) (HB.out.keep (hb1.trans (h.mono hbs))) (by rw [HN.out]; exact hc) X n (by rw [HN.out]; exact Nat.le_refl _)
      rwa [List.take_of_length_le (by rw [HM2.out]; exact Nat.le_refl _)] at h1) (by omega)).mono (R' := fun e w' => ∃ v, e = .returned v ∧ Ans w.heap.size w' v (l.drop X) ∧ Below w1.heap.size w1 w' ∧ Below W.heap.size W w') (by
        rintro e w' ⟨v, he, ha, hbb⟩
        exact ⟨v, he, ha.base (Nat.le_trans hbs h.size), h.trans (hbb.mono h.size), hbb⟩))
    obtain ⟨L1, hL1⟩ : ∃ L1, L1 = l.take X := ⟨_, rfl⟩
    obtain ⟨L2, hL2⟩ : ∃ L2, L2 = l.drop X := ⟨_, rfl⟩
    rw [← hL1] at C1 HTD
    rw [← hL2] at C2 HTD HF
    obtain ⟨P1, hP1⟩ : ∃ P1, P1 = ReplyT.partAt p c 0 := ⟨_, rfl⟩
    obtain ⟨P2, hP2⟩ : ∃ P2, P2 = ReplyT.partAt p c X := ⟨_, rfl⟩
    rw [← hP1] at C1 q1
    rw [← hP2] at C2 q2
    clear hL1 hL2 hP1 hP2 HM1 HM2 hs hb1
    go_wp2_with fail
    go_region_held (fun W => Below w1.heap.size w1 W) (first | assumption | exact (Below.refl _ _).drew | exact Below.alloc (by assumption) (Below.size (by assumption)) _)
      (first
        | (go_at_call 30; with_reducible refine (C1.out _ (by assumption)).mono ?_; rintro e w3 ⟨v1, rfl, ha1, hb3, hk3⟩)
        | (go_at_call 30; with_reducible refine (C2.out _ (by assumption)).mono ?_; rintro e w4 ⟨v2, rfl, ha2, hb4, hk4⟩))
    all_goals
      go_wp2_with fail
      go_ret3
      exact ⟨HB1.out.trans (Below.mono (by first | exact hb4 | exact hb3) hbs), Or.inl ⟨L1, L2, v1, v2, HTD.out, HF.out, rfl, by first | exact ha1 | exact ha1.keep hk4, by first | exact ha2 | exact ha2.keep hk3⟩⟩
  · have HNo := Lib.hid hno
    clear hno
    go_wp2_with fail
    go_ret3
    exact ⟨hb1, Or.inr ⟨HNo.out, _, _, rfl, ans_none _ _, ans_none _ _⟩⟩

end Go.Proofs.YteojijocoamohaaDoor.ReplyM
