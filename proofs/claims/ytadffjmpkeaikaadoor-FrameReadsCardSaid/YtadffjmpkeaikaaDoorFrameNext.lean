/-
  The landed code of layer 6: frame.inline and frame.Next.
-/
import Derived.Test.YtadffjmpkeaikaaDoorFrameRow
namespace Go.Proofs.YtadffjmpkeaikaaDoor.FrameM
open Go.RowKit Kit BytesIn ReplyMath ReplyT NumMath NumL FrameMath FrameT
set_option linter.unusedVariables false
set_option maxRecDepth 100000

theorem lineL_none {l : List UInt8} (h : find10 600 l = none) : lineL l = if 600 ≤ l.length then .bad else .part := by unfold lineL; rw [h]
theorem lineL_at {l : List UInt8} {i : Nat} (h : find10 600 l = some i) : lineL l = lineAt l i := by unfold lineL; rw [h]
theorem wordsL_len (l : List UInt8) : (wordsL l).length ≤ l.length := by
  have key : ∀ (l cur : List UInt8), (wordsOn cur l).length ≤ l.length + (if cur = [] then 0 else 1) := by
    intro l
    induction l with
    | nil =>
      intro cur
      rw [wordsOn]
      split <;> simp
    | cons c r ih =>
      intro cur
      rw [wordsOn]
      by_cases hc : c = 32
      · rw [if_pos hc]
        by_cases h : cur = []
        · rw [if_pos h, if_pos h]
          have := ih []
          rw [if_pos rfl] at this
          simp
          omega
        · rw [if_neg h, if_neg h]
          have := ih []
          rw [if_pos rfl] at this
          simp
          omega
      · rw [if_neg hc]
        have := ih (cur ++ [c])
        rw [if_neg (by simp)] at this
        simp only [List.length_cons]
        split <;> omega
  have := key l []
  rw [if_pos rfl] at this
  exact this

/-- What a line is answered as, the part's address being the row's. -/
theorem lineP_some {i : Nat} {p : Option Addr} {c : Nat} {f : Bool} {w : World} {e : Ending} {w' : World} (h : LineP (some i) p c f w e w') : w' = w ∧ e = .returned (.tuple #[.slice p i c, .int .i64 ((i : Int) + 1), .int .i64 0]) := by
  refine ⟨h.1, ?_⟩
  have h2 : e = .returned (.tuple #[.slice (ReplyT.partAt p c 0) i c, .int .i64 ((i : Int) + 1), .int .i64 0]) := h.2
  rwa [partAt_zero] at h2
set_option maxHeartbeats 4000000 in
theorem inline_any (p : Option Addr) (l : List UInt8) (n c : Nat) (w : World) (hn : l.length = n) (hb : Bs w p l) (hc : n ≤ c) (hcm : c ≤ 9223372036854775807) (hz : n ≤ 65536) (hnil : p = none → c = 0) :
    Calls Tryd.prog 26 #[.slice p n c] w (NextP (lineL l) w) := by
  have CL := line_any 600 p l n c w (by decide) hn hb hc hcm hnil
  rcases ho : find10 600 l with _ | i
  · have HE := Lib.hid (lineL_none ho)
    rw [ho] at CL
    by_cases hf : 600 ≤ n
    · rw [decide_eq_true hf] at CL
      have CL : Hid (Calls Tryd.prog 34 #[.slice p n c, .int .i64 600] w fun e w' => w' = w ∧ e = .returned (.tuple #[.slice none 0 0, .int .i64 0, .int .i64 10])) := Lib.hid CL
      have HX := Lib.hid (show lineL l = .bad by rw [HE.out, if_pos (by omega)])
      clear ho hb hnil
      go_enter Tryd.func26, Tryd.ntmps26
      go_wp2_with fail
      refine CL.out.mono ?_
      rintro e w1 ⟨rfl, rfl⟩
      go_wp2_with fail
      go_ret3
      exact next_bad HX.out (Below.refl _ _)
    · rw [decide_eq_false hf] at CL
      have CL : Hid (Calls Tryd.prog 34 #[.slice p n c, .int .i64 600] w fun e w' => w' = w ∧ e = .returned (.tuple #[.slice none 0 0, .int .i64 0, .int .i64 0])) := Lib.hid CL
      have HX := Lib.hid (show lineL l = .part by rw [HE.out, if_neg (by omega)])
      clear ho hb hnil
      go_enter Tryd.func26, Tryd.ntmps26
      go_wp2_with fail
      refine CL.out.mono ?_
      rintro e w1 ⟨rfl, rfl⟩
      go_wp2_with fail
      go_ret3
      exact next_none HX.out (Below.refl _ _)
  · obtain ⟨hi6, hil, -⟩ := find10_some ho
    have HE := Lib.hid (lineL_at ho)
    rw [ho] at CL
    have CL : Hid (Calls Tryd.prog 34 #[.slice p n c, .int .i64 600] w fun e w' => w' = w ∧ e = .returned (.tuple #[.slice p i c, .int .i64 ((i : Int) + 1), .int .i64 0])) := Lib.hid (CL.mono fun e w' h => lineP_some h)
    have hBP : Bs w p (l.take i) := ReplyT.Bs.take hb i
    have hcv := run_const w
    have t0 : ((i : Int) + 1 == 0) = false := by rw [beq_eq_false_iff_ne]; omega
    obtain ⟨W1, hW1⟩ : ∃ W1, W1 = w.alloc (.cells (bv [13]).toArray 5 (1, 2)) := ⟨_, rfl⟩
    have hb1 : Below w.heap.size w W1 := by rw [hW1]; exact below1 _ _
    have CC := trim_cr p (l.take i) i c (some ⟨w.heap.size, 0, none⟩) 1 W1 (by rw [List.length_take]; omega) (hBP.keep hb1) (by omega) (by omega) (by rw [hW1]; exact lit_bs w [13] _ _)
    obtain ⟨m, hm⟩ : ∃ m, m = endAt l i := ⟨_, rfl⟩
    have hmi : m ≤ i := by rw [hm]; exact endAt_le l i
    have CC2 : Hid (Calls Tryd.prog 36 #[.slice p i c, .slice (some ⟨w.heap.size, 0, none⟩) 1 1] (w.alloc (.cells #[.int .u8 13] 5 (1, 2))) fun e w' => e = .returned (.slice p m c) ∧ w' = W1) := Lib.hid (by
      rw [hW1] at CC ⊢
      refine Calls.mono CC ?_
      rintro e w' ⟨he, hw⟩
      refine ⟨?_, hw⟩
      rw [he, hm, endAt_cr l i (by omega)]
      split <;> rfl)
    have CSp := Lib.hid (split_any p (l.take m) m c W1 (by rw [List.length_take]; omega) (ReplyT.Bs.take (hb.keep hb1) m) (by omega) hcm (by omega) hnil)
    have HL := Lib.hid (show lineL l = if 32 < (wordsL (l.take m)).length then .bad else .is (wordsL (l.take m)) (i + 1) by rw [HE.out, hm]; rfl)
    have hwl := wordsL_len (l.take m)
    rw [List.length_take] at hwl
    obtain ⟨V, hV⟩ : ∃ V, V = wordsL (l.take m) := ⟨_, rfl⟩
    rw [← hV] at CSp HL hwl
    have HB1 := Lib.hid hb1
    have HBs := Lib.hid (show w.heap.size ≤ W1.heap.size from hb1.size)
    have e1 : IntKind.i64.wrap ((i : Int) + 1) = (i : Int) + 1 := IntWalk.i64_in _ (by omega)
    obtain ⟨N, hN⟩ : ∃ N, N = V.length := ⟨_, rfl⟩
    have HN := Lib.hid hN
    rw [← hN] at hwl
    have hNb : N ≤ 65536 := by omega
    clear CC hW1 ho hb hnil hBP hb1 hm hV hN hwl
    by_cases h32 : 32 < N
    · have HX := Lib.hid (show lineL l = .bad by rw [HL.out, if_pos (by rw [← HN.out]; exact h32)])
      have d1 : decide ((32 : Int) < (N : Int)) = true := decide_eq_true (by omega)
      go_enter Tryd.func26, Tryd.ntmps26
      go_wp2_with fail
      refine CL.out.mono ?_
      rintro e w1 ⟨rfl, rfl⟩
      go_wp2_with fail
      refine CC2.out.mono ?_
      rintro e w1 ⟨rfl, rfl⟩
      go_wp2_with fail
      refine CSp.out.mono ?_
      rintro e w2 ⟨v, rfl, ha, hb2⟩
      have HB2 := Lib.hid (HB1.out.trans (hb2.mono HBs.out))
      obtain ⟨qv, cv, hv, -⟩ := ha
      rw [← HN.out] at hv
      subst hv
      clear hb2
      go_wp2_with fail
      go_ret3
      exact next_bad HX.out HB2.out
    · have HX := Lib.hid (show lineL l = .is V (i + 1) by rw [HL.out, if_neg (by rw [← HN.out]; exact h32)])
      have d1 : decide ((32 : Int) < (N : Int)) = false := decide_eq_false (by omega)
      go_enter Tryd.func26, Tryd.ntmps26
      go_wp2_with fail
      refine CL.out.mono ?_
      rintro e w1 ⟨rfl, rfl⟩
      go_wp2_with fail
      refine CC2.out.mono ?_
      rintro e w1 ⟨rfl, rfl⟩
      go_wp2_with fail
      refine CSp.out.mono ?_
      rintro e w2 ⟨v, rfl, ha, hb2⟩
      have HB2 := Lib.hid (HB1.out.trans (hb2.mono HBs.out))
      have HA := Lib.hid (ha.base HBs.out)
      obtain ⟨qv, cv, hv, -⟩ := ha
      rw [← HN.out] at hv
      subst hv
      clear hb2
      go_wp2_with fail
      go_ret3
      exact next_is HX.out (by omega) HA.out HB2.out

set_option maxHeartbeats 2000000 in
theorem next_any (p : Option Addr) (l : List UInt8) (n c : Nat) (w : World) (hn : l.length = n) (hb : Bs w p l) (hc : n ≤ c) (hcm : c ≤ 9223372036854775807) (hz : n ≤ 65536) (hnil : p = none → c = 0) (hg : Gd w) :
    Calls Tryd.prog 12 #[.slice p n c] w (NextP (nextL l) w) := by
  have CR := row_any p l n c w hn hb hc hcm hz hnil hg
  have CI := inline_any p l n c w hn hb hc hcm hz hnil
  rcases Nat.eq_zero_or_pos n with h0 | h0
  · subst h0
    have hl : l = [] := List.eq_nil_of_length_eq_zero hn
    have CI : Hid (Calls Tryd.prog 26 #[.slice p 0 c] w (fun e w' => NextP (nextL l) w e w')) := Lib.hid (by rw [show nextL l = lineL l by rw [hl]; rfl]; exact CI)
    clear CR hb hnil hg hl
    go_enter Tryd.func12, Tryd.ntmps12
    go_wp2_with fail
    refine CI.out.mono ?_
    rintro e w1 ⟨v, rfl, ha, hb1⟩
    go_wp2_with fail
    go_ret3
    exact ⟨v, rfl, ha, hb1⟩
  · have d1 : decide ((0 : Int) < (n : Int)) = true := decide_eq_true (by omega)
    obtain ⟨b, off, rfl, hbl, hcell⟩ := hb (by omega)
    have hc0 := hcell 0 (by omega)
    rw [Nat.add_zero] at hc0
    obtain ⟨x, hx⟩ : ∃ x, x = l[0]'(by omega) := ⟨_, rfl⟩
    rw [← hx] at hc0
    have hhd : l.head? = some x := by rw [List.head?_eq_getElem?, List.getElem?_eq_getElem (by omega), hx]
    by_cases h42 : x = 42
    · have t1 : ((x.toNat : Int) == 42) = true := by rw [h42]; rfl
      have CR : Hid (Calls Tryd.prog 25 #[.slice (some ⟨b, off, none⟩) n c] w (fun e w' => NextP (nextL l) w e w')) := Lib.hid (by rw [show nextL l = rowL l by unfold nextL; rw [hhd, h42, if_pos rfl]]; exact CR)
      clear CI hb hnil hg hhd hx hcell h42
      go_enter Tryd.func12, Tryd.ntmps12
      go_wp2_with fail
      refine CR.out.mono ?_
      rintro e w1 ⟨v, rfl, ha, hb1⟩
      go_wp2_with fail
      go_ret3
      exact ⟨v, rfl, ha, hb1⟩
    · have t1 : ((x.toNat : Int) == 42) = false := by
        rw [beq_eq_false_iff_ne]
        intro e
        exact h42 (UInt8.toNat_inj.1 (by have : (42 : UInt8).toNat = 42 := rfl; omega))
      have CI : Hid (Calls Tryd.prog 26 #[.slice (some ⟨b, off, none⟩) n c] w (fun e w' => NextP (nextL l) w e w')) := Lib.hid (by rw [show nextL l = lineL l by unfold nextL; rw [hhd, if_neg (fun e => h42 (Option.some.inj e))]]; exact CI)
      clear CR hb hnil hg hhd hx hcell h42
      go_enter Tryd.func12, Tryd.ntmps12
      go_wp2_with fail
      refine CI.out.mono ?_
      rintro e w1 ⟨v, rfl, ha, hb1⟩
      go_wp2_with fail
      go_ret3
      exact ⟨v, rfl, ha, hb1⟩

end Go.Proofs.YtadffjmpkeaikaaDoor.FrameM
