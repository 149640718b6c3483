/-
  The document's own Take of layer 5 (package tipstaffref05).
-/
import Derived.Test.YteojijocoamohaaDoorRefOne
import Derived.Test.YteojijocoamohaaDoorReplyRows
import Derived.Deep.RegionLaw
namespace Go.Proofs.YteojijocoamohaaDoor.RefR
open Go.RowKit Kit BytesIn ReplyMath ReplyT NumMath NumL
set_option linter.unusedVariables false
set_option maxRecDepth 100000

/-- So many replies are left to be taken from a place on. -/
def LeftAt (l : List UInt8) (X m : Nat) : Prop := ∀ r, Skips 1 l r ↔ Skips m (l.drop X) r
theorem LeftAt.start (l : List UInt8) : LeftAt l 0 1 := fun r => by rw [List.drop_zero]
theorem LeftAt.step {l r : List UInt8} {X Y m k : Nat} (h : LeftAt l X (m + 1)) (ho : one (l.drop X) = some (r, k)) (hr : r = l.drop Y) : LeftAt l Y (m + k) := fun t => by
  rw [h t, skips_one_iff ho, hr]
theorem LeftAt.no {l : List UInt8} {X m : Nat} (h : LeftAt l X (m + 1)) (ho : one (l.drop X) = none) (r : List UInt8) : ¬ Skips 1 l r := fun hs => skips_no ho ((h r).1 hs)
theorem LeftAt.far {l r : List UInt8} {X m k : Nat} (h : LeftAt l X (m + 1)) (ho : one (l.drop X) = some (r, k)) (hk : l.length < k) (t : List UInt8) : ¬ Skips 1 l t := fun hs => by
  have h1 := (skips_one_iff ho t).1 ((h t).1 hs)
  obtain ⟨x, e, hx, -⟩ := h1.split
  obtain ⟨y, e2, -, -⟩ := one_split ho
  have e3 := congrArg List.length e
  have e4 := congrArg List.length e2
  rw [List.length_append] at e3 e4
  rw [List.length_drop] at e4
  omega
theorem LeftAt.fin {l : List UInt8} {X : Nat} (h : LeftAt l X 0) : Skips 1 l (l.drop X) := (h _).2 (Skips.none _)

theorem rone_is (p : Option Addr) (l : List UInt8) (n c X Y k : Nat) (r : List UInt8) (w : World) (hn : l.length = n) (hb : Bs w p l) (hc : n ≤ c) (hcm : c ≤ 9223372036854775807) (hz : n ≤ 1048576) (hst : X ≤ n)
    (ho : one (l.drop X) = some (r, k)) (hk : k ≤ n) (hY : Y + r.length = n) :
    Calls Tryd.prog 31 #[.slice p n c, .int .i64 (X : Int)] w fun e w' => e = .returned (.tuple #[.int .i64 (Y : Int), .int .i64 (k : Int)]) ∧ Below w.heap.size w w' := by
  refine (rone p l n c X w hn hb hc hcm hz hst).mono ?_
  rintro e w' ⟨he, hw⟩
  rw [ho] at he
  refine ⟨?_, hw⟩
  have he : ite (k ≤ n) _ _ := he
  rw [if_pos hk] at he
  rw [he, show (n : Int) - (r.length : Int) = (Y : Int) by omega]
theorem rone_no (p : Option Addr) (l : List UInt8) (n c X : Nat) (w : World) (hn : l.length = n) (hb : Bs w p l) (hc : n ≤ c) (hcm : c ≤ 9223372036854775807) (hz : n ≤ 1048576) (hst : X ≤ n)
    (ho : one (l.drop X) = none ∨ ∃ r k, one (l.drop X) = some (r, k) ∧ n < k) :
    Calls Tryd.prog 31 #[.slice p n c, .int .i64 (X : Int)] w fun e w' => e = .returned (.tuple #[.int .i64 (-1), .int .i64 0]) ∧ Below w.heap.size w w' := by
  refine (rone p l n c X w hn hb hc hcm hz hst).mono ?_
  rintro e w' ⟨he, hw⟩
  refine ⟨?_, hw⟩
  rcases ho with ho | ⟨r, k, ho, hk⟩
  · rw [ho] at he
    exact he
  · rw [ho] at he
    have he : ite (k ≤ n) _ _ := he
    rw [if_neg (by omega)] at he
    exact he

set_option maxHeartbeats 4000000 in
theorem rtake (p : Option Addr) (l : List UInt8) (n c : Nat) (w : World) (hn : l.length = n) (hb : Bs w p l) (hc : n ≤ c) (hcm : c ≤ 9223372036854775807) (hz : n ≤ 1048576) (hnil : p = none → c = 0) :
    Calls Tryd.prog 12 #[.slice p n c] w (TakeP l w) := by
  have HN := Lib.hid hn
  have HB := Lib.hid hb
  have HNil := Lib.hid hnil
  clear hb hn hnil
  go_enter Tryd.func12, Tryd.ntmps12
  go_wp2_with fail
  go_loopw [5, 6] (fun i j wr => ∃ X m : Nat, i = .int .i64 X ∧ j = .int .i64 m ∧ X ≤ n ∧ m ≤ 1048577 * (X + 1) ∧ Hid (LeftAt l X m) ∧ Below w.heap.size w wr) (fun i _ _ => n - (intOf i).toNat)
  case atStart => exact ⟨0, 1, rfl, rfl, Nat.zero_le _, by omega, Lib.hid (LeftAt.start l), Below.refl _ _⟩
  case round =>
    obtain ⟨X, m, rfl, rfl, hX, hm, HLf, hbr⟩ := hrel
    have HBr := Lib.hid hbr
    have hbs := hbr.size
    clear hbr
    rcases Nat.eq_zero_or_pos m with h0 | h0
    · subst h0
      have HF := Lib.hid HLf.out.fin
      have q1 := fun W => sl_h p n c X (by omega) W
      have q2 := fun W => sl_l p n c X hX W
      have HQ1 := Lib.hid (fun W (h : Below wr.heap.size wr W) => (show Bs W (ReplyT.partAt p c 0) (l.take X) by
        have h1 := partAt_bs (c := c) (HB.out.keep (HBr.out.trans (h.mono hbs))) (by rw [HN.out]; exact hc) 0 X (by rw [HN.out]; exact hX)
        rwa [List.drop_zero, Nat.sub_zero] at h1))
      have HQ2 := Lib.hid (fun W (h : Below wr.heap.size wr W) => (show Bs W (ReplyT.partAt p c X) (l.drop X) by
        have h1 := partAt_bs (c := c) (HB.out.keep (HBr.out.trans (h.mono hbs))) (by rw [HN.out]; exact hc) X n (by rw [HN.out]; exact Nat.le_refl _)
        rwa [List.take_of_length_le (by rw [List.length_drop, HN.out]; omega)] at h1))
      have HM1 := Lib.hid (show (l.take X).length = X by rw [List.length_take, HN.out]; omega)
      have HM2 := Lib.hid (show (l.drop X).length = n - X by rw [List.length_drop, HN.out])
      have HP1 := Lib.hid (show ReplyT.partAt p c 0 = none → c = 0 from fun h => partAt_none HNil.out h)
      have HP2 := Lib.hid (show ReplyT.partAt p c X = none → c - X = 0 from fun h => partAt_none HNil.out h)
      have HTD := Lib.hid (show l = l.take X ++ l.drop X from (List.take_append_drop X l).symm)
      obtain ⟨L1, hL1⟩ : ∃ L1, L1 = l.take X := ⟨_, rfl⟩
      obtain ⟨L2, hL2⟩ : ∃ L2, L2 = l.drop X := ⟨_, rfl⟩
      rw [← hL1] at HQ1 HM1 HTD
      rw [← hL2] at HQ2 HM2 HTD HF
      obtain ⟨P1, hP1⟩ : ∃ P1, P1 = ReplyT.partAt p c 0 := ⟨_, rfl⟩
      obtain ⟨P2, hP2⟩ : ∃ P2, P2 = ReplyT.partAt p c X := ⟨_, rfl⟩
      rw [← hP1] at HQ1 HP1 q1
      rw [← hP2] at HQ2 HP2 q2
      clear hL1 hL2 hP1 hP2 HLf
      go_wp2_with fail
      go_region_law (first
        | (refine step_copy_bs w.heap.size rfl (.tmp 25) (.tmp 28) rfl _ rfl ?o1 ?o2 ?o3 P1 L1 _ _ rfl HM1.out (HQ1.out _ ?o4) HP1.out (by omega) ?_
           case o1 => first | exact emp_a _ | exact emp_b _ | exact emp_c _
           case o2 => first | exact hbs | exact Nat.le_succ_of_le hbs
           case o3 => first | omega | (simp <;> omega)
           case o4 => first | exact bel_a _ _ | exact bel_b _ _ _
           intro v1 w1 ha1 hb1
           have hc1 : Below wr.heap.size wr w1 := by first | exact (bel_a wr _).trans (hb1.mono (by simp)) | exact (bel_b wr _ _).trans (hb1.mono (by simp <;> omega))
           have hs1 := hc1.size)
        | (refine step_copy_bs w.heap.size rfl (.tmp 30) (.tmp 33) rfl _ rfl ?o1 ?o2 ?o3 P2 L2 _ _ rfl HM2.out (HQ2.out _ ?o4) HP2.out (by omega) ?_
           case o1 => first | exact emp_new _ | exact (emp_b _).keep hb1 | exact (emp_c _).keep hb1
           case o2 => first | exact hbs | exact Nat.le_succ_of_le hbs | omega
           case o3 => first | omega | (simp <;> omega)
           case o4 => first | exact hc1 | exact hc1.alloc hs1 _
           intro v2 w2 ha2 hb2
           have hc2 : Below wr.heap.size wr w2 := by first | exact hc1.trans (hb2.mono hs1) | exact (hc1.alloc hs1 _).trans (hb2.mono (by simp <;> omega))
           have hk1 : Ans w.heap.size w2 v1 L1 := by first | exact ha1.keep hb2 | exact (ha1.keep (below1 _ _)).keep hb2))
      all_goals
        clear hb1 hb2 ha1 hc1
        go_wp2_with fail
        go_ret3
        exact ⟨HBr.out.trans (hc2.mono hbs), Or.inl ⟨L1, L2, v1, v2, HTD.out, HF.out, rfl, hk1, ha2⟩⟩
    · obtain ⟨m', rfl⟩ : ∃ m', m = m' + 1 := ⟨m - 1, by omega⟩
      have d1 : decide ((0 : Int) < ((m' + 1 : Nat) : Int)) = true := decide_eq_true (by omega)
      by_cases hfar : one (l.drop X) = none ∨ ∃ r k, one (l.drop X) = some (r, k) ∧ n < k
      · have HNo := Lib.hid (show ∀ r, ¬ Skips 1 l r by
          rcases hfar with ho | ⟨r, k, ho, hk⟩
          · exact HLf.out.no ho
          · exact HLf.out.far ho (by rw [HN.out]; exact hk))
        have C := Lib.hid (rone_no p l n c X wr HN.out (HB.out.keep HBr.out) hc hcm hz hX hfar)
        clear hfar
        go_wp2_with fail
        refine C.out.mono ?_
        rintro e w1 ⟨rfl, hb1⟩
        go_wp2_with fail
        go_ret3
        exact ⟨HBr.out.trans (hb1.mono hbs), Or.inr ⟨HNo.out, _, _, rfl, ans_none _ _, ans_none _ _⟩⟩
      · rcases ho : one (l.drop X) with _ | ⟨r, k⟩
        · exact absurd (Or.inl ho) hfar
        · have hk : k ≤ n := Nat.le_of_not_lt fun h => hfar (Or.inr ⟨r, k, ho, h⟩)
          obtain ⟨x, hx, hx3, -⟩ := one_split ho
          have hlen := congrArg List.length hx
          rw [List.length_drop, List.length_append, HN.out] at hlen
          obtain ⟨Y, hY⟩ : ∃ Y, Y + r.length = n := ⟨n - r.length, by omega⟩
          have hr : r = l.drop Y := by
            have h := congrArg (List.drop x.length) hx
            rw [List.drop_drop, List.drop_left, show X + x.length = Y by omega] at h
            exact h.symm
          have HL2 := Lib.hid (HLf.out.step ho hr)
          have C := Lib.hid (rone_is p l n c X Y k r wr HN.out (HB.out.keep HBr.out) hc hcm hz hX ho hk hY)
          have hXY : X + 1 ≤ Y := by omega
          have hYn : Y ≤ n := by omega
          have d2 : decide ((Y : Int) < 0) = false := decide_eq_false (by omega)
          have e1 : IntKind.i64.wrap (((m' + 1 : Nat) : Int) + (k : Int)) = ((m' + 1 : Nat) : Int) + (k : Int) := IntWalk.i64_in _ (by omega)
          have e2 : IntKind.i64.wrap (((m' + 1 : Nat) : Int) + (k : Int) - 1) = ((m' + 1 : Nat) : Int) + (k : Int) - 1 := IntWalk.i64_in _ (by omega)
          clear hfar ho hx hlen hY hr HLf
          go_wp2_with fail
          refine C.out.mono ?_
          rintro e w1 ⟨rfl, hb1⟩
          go_wp2_with fail
          go_roundw
          case rel => exact ⟨Y, m' + k, rfl, by go_num, hYn, by omega, HL2, HBr.out.trans (hb1.mono hbs)⟩
          case measure => simp [intOf]; omega

end Go.Proofs.YteojijocoamohaaDoor.RefR
