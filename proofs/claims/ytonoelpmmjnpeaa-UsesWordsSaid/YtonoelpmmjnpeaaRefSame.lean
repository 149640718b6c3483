/-
  Whether two needs are the same, and any request's need, as the document's own answers of layer 8 (package tipstaffref08) tell it.
-/
import Derived.Test.YtonoelpmmjnpeaaRefUseOf2
import Derived.Test.YtonoelpmmjnpeaaStrSame
import Derived.Deep.DeepCutAuto
namespace Go.Proofs.Ytonoelpmmjnpeaa.RefU
open Go.RowKit Kit StrT UseT TableMath Low
set_option linter.unusedVariables false
set_option maxRecDepth 100000

theorem rof_any (q : Option Addr) (args : List (List UInt8)) (n c : Nat) (w : World) (hn : args.length = n) (h : Ss w q args) (hz : n ≤ 1048576) (hcap : n ≤ c) (hs : (args.getD 0 []).length ≤ 140737488351232) :
    Calls Try.prog 11 #[.slice q n c] w (OfP args w) := by
  by_cases h0 : n = 0
  · subst h0
    obtain rfl : args = [] := List.eq_nil_of_length_eq_zero hn
    exact rof_nil q c w
  · by_cases hf : findB (nameL args) = false
    · exact rof_bad q args n c w hn h hz (by omega) hs (Or.inl hf)
    · by_cases hk : okL (nameL args) n = false
      · exact rof_bad q args n c w hn h hz (by omega) hs (Or.inr hk)
      · exact rof_ok q args n c w hn h hz hcap (by omega) hs (by simpa using hf) (by simpa using hk)

theorem use_eq {x y : U} : x = y ↔ (x.key = y.key ∧ x.r = y.r ∧ x.w = y.w) := by
  cases x; cases y; simp
def SameP (T : Prop) (w : World) (e : Ending) (w' : World) : Prop := ∃ B : Bool, e = .returned (.bool B) ∧ (T → B = true) ∧ Below w.heap.size w w'
theorem same_no {T : Prop} {w w' : World} (h : ¬ T) (hb : Below w.heap.size w w') : SameP T w (.returned (.bool false)) w' := ⟨false, rfl, fun t => absurd t h, hb⟩
theorem same_yes {T : Prop} {w w' : World} (hb : Below w.heap.size w w') : SameP T w (.returned (.bool true)) w' := ⟨true, rfl, fun _ => rfl, hb⟩
theorem need_at (W : World) (x0 x1 x2 x3 x4 : Value) (k : Nat) (hk : k = W.heap.size) : let W' := W.alloc (.cells #[x0, x1, x2, x3, x4] 27); W'.cell? ⟨k, 0, none⟩ = some x0 ∧ W'.cell? ⟨k, 1, none⟩ = some x1 ∧ W'.cell? ⟨k, 2, none⟩ = some x2 ∧ W'.cell? ⟨k, 3, none⟩ = some x3 ∧ W'.cell? ⟨k, 4, none⟩ = some x4 := by
  subst hk
  refine ⟨?_, ?_, ?_, ?_, ?_⟩ <;> (rw [cell_of_row _ _ _ _ 27 _ (heap_alloc_last W _)]; rfl)
/-- The cells of a need that lies at a place. -/
structure NCells (w : World) (g : Nat) (x0 x1 x2 x3 x4 : Value) : Prop where
  c0 : w.cell? ⟨g, 0, none⟩ = some x0
  c1 : w.cell? ⟨g, 1, none⟩ = some x1
  c2 : w.cell? ⟨g, 2, none⟩ = some x2
  c3 : w.cell? ⟨g, 3, none⟩ = some x3
  c4 : w.cell? ⟨g, 4, none⟩ = some x4
theorem NCells.new (W : World) (x0 x1 x2 x3 x4 : Value) (k : Nat) (hk : k = W.heap.size) : NCells (W.alloc (.cells #[x0, x1, x2, x3, x4] 27)) k x0 x1 x2 x3 x4 := by
  obtain ⟨a, b, c, d, e⟩ := need_at W x0 x1 x2 x3 x4 k hk
  exact ⟨a, b, c, d, e⟩
theorem NCells.keep {w w' : World} {g : Nat} {x0 x1 x2 x3 x4 : Value} (h : NCells w g x0 x1 x2 x3 x4) (hb : Below w.heap.size w w') (hg : g < w.heap.size) : NCells w' g x0 x1 x2 x3 x4 :=
  ⟨by rw [hb.cell (p := ⟨g, 0, none⟩) hg]; exact h.c0, by rw [hb.cell (p := ⟨g, 1, none⟩) hg]; exact h.c1, by rw [hb.cell (p := ⟨g, 2, none⟩) hg]; exact h.c2, by rw [hb.cell (p := ⟨g, 3, none⟩) hg]; exact h.c3, by rw [hb.cell (p := ⟨g, 4, none⟩) hg]; exact h.c4⟩

set_option maxHeartbeats 4000000 in
theorem rsame (k1 k2 : Int) (q1 q2 p1 p2 : Option Addr) (K1 K2 : List U) (C1 C2 : List (List UInt8)) (n1 n2 m1 m2 c1 c2 d1 d2 : Nat) (r1 r2 z1 z2 : Bool) (w : World) (hn1 : K1.length = n1) (hn2 : K2.length = n2) (hm1 : C1.length = m1) (hm2 : C2.length = m2)
    (hK1 : Us w q1 K1) (hK2 : Us w q2 K2) (hC1 : Ss w p1 C1) (hC2 : Ss w p2 C2) (hz : n1 ≤ 1048576) (hz2 : m1 ≤ 1048576) :
    Calls Try.prog 12 #[.agg #[.int .i64 k1, .slice q1 n1 c1, .bool r1, .bool z1, .slice p1 m1 d1], .agg #[.int .i64 k2, .slice q2 n2 c2, .bool r2, .bool z2, .slice p2 m2 d2]] w
      (SameP (k1 = k2 ∧ K1 = K2 ∧ r1 = r2 ∧ z1 = z2 ∧ C1 = C2) w) := by
  have HW1 := Lib.hid (Kit.below1 w (.cells #[.int .i64 k1, .slice q1 n1 c1, .bool r1, .bool z1, .slice p1 m1 d1] 27))
  have HW := Lib.hid (Kit.below2 w (.cells #[.int .i64 k1, .slice q1 n1 c1, .bool r1, .bool z1, .slice p1 m1 d1] 27) (.cells #[.int .i64 k2, .slice q2 n2 c2, .bool r2, .bool z2, .slice p2 m2 d2] 27))
  have HN1 := Lib.hid ((NCells.new w (.int .i64 k1) (.slice q1 n1 c1) (.bool r1) (.bool z1) (.slice p1 m1 d1) w.heap.size rfl).keep (Kit.below1 _ (.cells #[.int .i64 k2, .slice q2 n2 c2, .bool r2, .bool z2, .slice p2 m2 d2] 27)) (by simp))
  have HN2 := Lib.hid (NCells.new (w.alloc (.cells #[.int .i64 k1, .slice q1 n1 c1, .bool r1, .bool z1, .slice p1 m1 d1] 27)) (.int .i64 k2) (.slice q2 n2 c2) (.bool r2) (.bool z2) (.slice p2 m2 d2) (w.heap.size + 1) (by simp))
  have HLt := Lib.hid (show w.heap.size + 1 < ((w.alloc (.cells #[.int .i64 k1, .slice q1 n1 c1, .bool r1, .bool z1, .slice p1 m1 d1] 27)).alloc (.cells #[.int .i64 k2, .slice q2 n2 c2, .bool r2, .bool z2, .slice p2 m2 d2] 27)).heap.size by simp)
  have HK1 := Lib.hid (hK1.keep HW.out)
  have HK2 := Lib.hid (hK2.keep HW.out)
  have CT := Lib.hid (StrS.same_texts p1 p2 C1 C2 m1 m2 d1 d2 _ hm1 hm2 (hC1.keep HW.out) (hC2.keep HW.out) (by omega))
  have HL1 := Lib.hid hn1
  have HL2 := Lib.hid hn2
  clear hK1 hK2 hC1 hC2 HW1 hn1 hn2 hm1 hm2
  go_enter Try.func12, Try.ntmps12
  go_wp2_with fail
  generalize (w.alloc (.cells #[.int .i64 k1, .slice q1 n1 c1, .bool r1, .bool z1, .slice p1 m1 d1] 27)).alloc (.cells #[.int .i64 k2, .slice q2 n2 c2, .bool r2, .bool z2, .slice p2 m2 d2] 27) = W2 at HW HN1 HN2 HLt HK1 HK2 CT ⊢
  refine CT.out.mono ?_
  rintro e w3 ⟨rfl, hb3⟩
  have hL1 : w.heap.size < W2.heap.size := by have := HLt.out; omega
  obtain ⟨a0, a1, a2, a3, a4⟩ := HN1.out.keep hb3 hL1
  obtain ⟨b0, b1, b2, b3, b4⟩ := HN2.out.keep hb3 HLt.out
  have HU1 := Lib.hid (HK1.out.keep hb3)
  have HU2 := Lib.hid (HK2.out.keep hb3)
  have hb := HW.out.trans (hb3.mono HW.out.size)
  have hlt3 : w.heap.size + 1 < w3.heap.size := by have := hb3.size; have := HLt.out; omega
  have HB := Lib.hid hb
  clear CT HN1 HN2 HK1 HK2 hb3 HW HLt hL1 hb
  obtain ⟨B, hB⟩ : ∃ B, B = decide (C1 = C2) := ⟨_, rfl⟩
  rw [← hB]
  by_cases tk : k1 = k2
  rotate_left
  · have t1 : (k1 != k2) = true := bne_iff_ne.2 tk
    have HF := Lib.hid (show ¬ (k1 = k2 ∧ K1 = K2 ∧ r1 = r2 ∧ z1 = z2 ∧ C1 = C2) from fun h => tk h.1)
    clear tk hB
    go_wp2_with fail
    go_ret
    exact same_no HF.out HB.out
  have t1 : (k1 != k2) = false := by subst tk; exact bne_self_eq_false _
  by_cases tr : r1 = r2
  rotate_left
  · have HF := Lib.hid (show ¬ (k1 = k2 ∧ K1 = K2 ∧ r1 = r2 ∧ z1 = z2 ∧ C1 = C2) from fun h => tr h.2.2.1)
    cases r1 <;> cases r2
    · exact absurd rfl tr
    · clear tk tr hB
      go_wp2_with fail
      go_ret
      exact same_no HF.out HB.out
    · clear tk tr hB
      go_wp2_with fail
      go_ret
      exact same_no HF.out HB.out
    · exact absurd rfl tr
  subst tr
  by_cases tz : z1 = z2
  rotate_left
  · have HF := Lib.hid (show ¬ (k1 = k2 ∧ K1 = K2 ∧ r1 = r1 ∧ z1 = z2 ∧ C1 = C2) from fun h => tz h.2.2.2.1)
    cases z1 <;> cases z2
    · exact absurd rfl tz
    · clear tk tz hB
      go_wp2_with fail
      go_ret
      exact same_no HF.out HB.out
    · clear tk tz hB
      go_wp2_with fail
      go_ret
      exact same_no HF.out HB.out
    · exact absurd rfl tz
  subst tz
  by_cases tc : C1 = C2
  rotate_left
  · obtain rfl : B = false := by rw [hB]; exact decide_eq_false tc
    have HF := Lib.hid (show ¬ (k1 = k2 ∧ K1 = K2 ∧ r1 = r1 ∧ z1 = z1 ∧ C1 = C2) from fun h => tc h.2.2.2.2)
    clear tk tc hB
    go_wp2_with fail
    go_ret
    exact same_no HF.out HB.out
  obtain rfl : B = true := by rw [hB]; exact decide_eq_true tc
  by_cases tn : n1 = n2
  rotate_left
  · have t5 : ((n1 : Int) != (n2 : Int)) = true := by rw [bne_iff_ne]; omega
    have HF := Lib.hid (show ¬ (k1 = k2 ∧ K1 = K2 ∧ r1 = r1 ∧ z1 = z1 ∧ C1 = C2) from fun h => tn (by rw [← HL1.out, ← HL2.out, h.2.1]))
    clear tk tc hB tn
    go_wp2_with fail
    go_ret
    exact same_no HF.out HB.out
  have t5 : ((n1 : Int) != (n2 : Int)) = false := by rw [tn]; exact bne_self_eq_false _
  have HE := Lib.hid tn
  clear tk tc hB tn
  go_wp2_with fail
  have HA := Lib.hid (NCells.mk a0 a1 a2 a3 a4)
  have HBc := Lib.hid (NCells.mk b0 b1 b2 b3 b4)
  have hsz := HB.out.size
  have HL0 := Lib.hid (show w.heap.size + 1 < w3.heap.size from hlt3)
  clear a0 a1 a2 a3 a4 b0 b1 b2 b3 b4 hsz hlt3
  go_loopw [6] (fun i wr => ∃ k : Nat, k ≤ n1 ∧ i = .int .i64 k ∧ Below w3.heap.size w3 wr) (fun i _ => n1 - (intOf i).toNat)
  case atStart => exact ⟨0, Nat.zero_le _, rfl, Below.refl _ _⟩
  case round =>
    obtain ⟨k, hk, rfl, hb⟩ := hrel
    obtain ⟨a0, a1, a2, a3, a4⟩ := HA.out.keep hb (by have := HL0.out; omega)
    obtain ⟨b0, b1, b2, b3, b4⟩ := HBc.out.keep hb HL0.out
    clear a0 a2 a3 a4 b0 b2 b3 b4
    by_cases hlt : k < n1
    · have d1 : decide ((k : Int) < (n1 : Int)) = true := decide_eq_true (by omega)
      have hk0 : (0 : Int) ≤ (k : Int) := by omega
      have hkn : (k : Int) < (n1 : Int) := by omega
      have hkn2 : (k : Int) < (n2 : Int) := by have := HE.out; omega
      have hx1 : k < K1.length := by rw [HL1.out]; exact hlt
      have hx2 : k < K2.length := by rw [HL2.out, ← HE.out]; exact hlt
      obtain ⟨b, off, rfl, hbl, u0, u1, u2⟩ := (HU1.out.keep hb).cells k hx1
      obtain ⟨b', off', rfl, hbl', v0, v1, v2⟩ := (HU2.out.keep hb).cells k hx2
      have HNe := Lib.hid (show K1[k] ≠ K2[k] → ¬ (k1 = k2 ∧ K1 = K2 ∧ r1 = r1 ∧ z1 = z1 ∧ C1 = C2) from fun hne h => hne (by simp only [h.2.1]))
      obtain ⟨x, hx⟩ : ∃ x : U, x = K1[k] := ⟨_, rfl⟩
      obtain ⟨y, hy⟩ : ∃ y : U, y = K2[k] := ⟨_, rfl⟩
      rw [← hx] at u0 u1 u2 HNe
      rw [← hy] at v0 v1 v2 HNe
      obtain ⟨xk, xr, xw⟩ := x
      obtain ⟨yk, yr, yw⟩ := y
      simp only at u0 u1 u2 v0 v1 v2
      clear hx hy hx1 hx2 hbl hbl'
      by_cases he : (⟨xk, xr, xw⟩ : U) = ⟨yk, yr, yw⟩
      · injection he with e1 e2 e3
        subst e1 e2 e3
        obtain ⟨T, hT⟩ : ∃ T : ByteArray, T = ⟨xk.toArray⟩ := ⟨_, rfl⟩
        rw [← hT] at u0 v0
        clear hT HNe
        go_wp2_with fail
        go_quiet (fail)
        have hbq := StrS.below_drewN hb nq
        clear hb u0 u1 u2 v0 v1 v2 a1 b1
        generalize wr.drewN nq = wq at hbq ⊢
        go_wp2_with fail
        go_roundw
        case rel => exact ⟨k + 1, by omega, by go_num, hbq⟩
        case measure => simp [intOf]; omega
      · have HF := Lib.hid (HNe.out he)
        obtain ⟨S, hS⟩ : ∃ S : ByteArray, S = ⟨xk.toArray⟩ := ⟨_, rfl⟩
        obtain ⟨T, hT⟩ : ∃ T : ByteArray, T = ⟨yk.toArray⟩ := ⟨_, rfl⟩
        rw [← hS] at u0
        rw [← hT] at v0
        by_cases hk : xk = yk
        · subst hk
          obtain rfl : S = T := by rw [hS, hT]
          clear hS hT HNe
          cases xr <;> cases yr <;> cases xw <;> cases yw
          all_goals first | exact absurd rfl he | clear he
          all_goals
            go_wp2_with fail
            go_quiet (fail)
            have hbq := StrS.below_drewN (HB.out.trans (hb.mono HB.out.size)) nq
            clear hb u0 u1 u2 v0 v1 v2 a1 b1
            generalize wr.drewN nq = wq at hbq ⊢
            go_wp2_with fail
            go_ret
            exact same_no HF.out hbq
        · have hE : (S.toList == T.toList) = false := by rw [hS, hT, ByteArray.toList_eq, ByteArray.toList_eq]; exact beq_eq_false_iff_ne.2 hk
          have hE2 : (S.toList != T.toList) = true := by rw [bne, hE]; rfl
          have hE3 : ¬ S = T := fun e => by rw [e, beq_self_eq_true] at hE; cases hE
          clear hS hT HNe he hk
          go_wp2_with fail
          go_quiet (fail)
          have hbq := StrS.below_drewN (HB.out.trans (hb.mono HB.out.size)) nq
          clear hb u0 u1 u2 v0 v1 v2 a1 b1
          generalize wr.drewN nq = wq at hbq ⊢
          go_wp2_with fail
          go_ret
          exact same_no HF.out hbq
    · have d1 : decide ((k : Int) < (n1 : Int)) = false := decide_eq_false (by omega)
      have HF := Lib.hid (HB.out.trans (hb.mono HB.out.size))
      clear hb
      go_wp2_with fail
      go_ret
      exact same_yes HF.out

end Go.Proofs.Ytonoelpmmjnpeaa.RefU
