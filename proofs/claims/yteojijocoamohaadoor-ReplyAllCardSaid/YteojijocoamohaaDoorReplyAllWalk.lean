/-
  'tipstafflaw05.ReplyAll': for all texts, numbers and bytes it answers true.
-/
import Derived.Test.YteojijocoamohaaDoorReplyFew
import Derived.Test.YteojijocoamohaaDoorRefTexts
import Derived.Test.YteojijocoamohaaDoorRefTake
import Derived.Deep.RegionHeld
import Derived.Deep.DeepCutAuto
namespace Go.Proofs.YteojijocoamohaaDoor.replyAll
open Go.RowKit Kit BytesIn ReplyMath ReplyT ReplyM ReplyL RefR NumMath NumL
set_option linter.unusedVariables false
set_option linter.unusedSimpArgs false
set_option maxRecDepth 100000
-- ASKS: ReplyM.Gx
-- NIL

theorem ok_slice {w : World} {v : Value} {l : List UInt8} (h : Ok w v l) (n : Nat) (hn : l.length = n) : ∃ p c, v = .slice p n c ∧ Bs w p l ∧ n ≤ c ∧ c ≤ 9223372036854775807 ∧ (p = none → c = 0) := by
  subst hn
  exact h

/-- What either Take answers of the same bytes: the same. -/
def Both (l : List UInt8) (w : World) (v u : Value) (b : Bool) (X R : List UInt8) : Prop := Ok w v X ∧ Ok w u R
theorem take_two {l : List UInt8} {w w1 : World} {e : Ending} (h : TakeP l w e w1) : Below w.heap.size w w1 ∧ ∃ v u b X R, e = .returned (.tuple #[v, u, .bool b]) ∧ Ok w1 v X ∧ Ok w1 u R ∧ (b = true → Skips 1 l R ∧ l = X ++ R) ∧ (b = false → (∀ r, ¬ Skips 1 l r) ∧ X = [] ∧ R = []) := by
  obtain ⟨hb, ⟨x, r, v, u, hx, hs, he, hv, hu⟩ | ⟨hno, v, u, he, hv, hu⟩⟩ := h
  · exact ⟨hb, v, u, true, x, r, he, hv.ok, hu.ok, fun _ => ⟨hs, hx⟩, fun h => by cases h⟩
  · exact ⟨hb, v, u, false, [], [], he, hv.ok, hu.ok, (fun h => by cases h), fun _ => ⟨hno, rfl, rfl⟩⟩
theorem same_two {l X R X' R' : List UInt8} {b b' : Bool} (h1 : b = true → Skips 1 l R ∧ l = X ++ R) (h2 : b = false → (∀ r, ¬ Skips 1 l r) ∧ X = [] ∧ R = [])
    (k1 : b' = true → Skips 1 l R' ∧ l = X' ++ R') (k2 : b' = false → (∀ r, ¬ Skips 1 l r) ∧ X' = [] ∧ R' = []) : b' = b ∧ X' = X ∧ R' = R := by
  cases b <;> cases b'
  · obtain ⟨-, rfl, rfl⟩ := h2 rfl
    obtain ⟨-, rfl, rfl⟩ := k2 rfl
    exact ⟨rfl, rfl, rfl⟩
  · exact absurd (k1 rfl).1 ((h2 rfl).1 _)
  · exact absurd (h1 rfl).1 ((k2 rfl).1 _)
  · obtain ⟨hs, hx⟩ := h1 rfl
    obtain ⟨hs', hx'⟩ := k1 rfl
    have e := hs.det hs'
    subst e
    exact ⟨rfl, List.append_cancel_right (hx'.symm.trans hx), rfl⟩

/-- A stronger condition serves. -/
theorem held_mono {P : Program} {md : Region.Mode} {ops : Array Oper} {Q : Exit → Act → World → Prop} {S S' : World → Prop} (h : ∀ w, S' w → S w) : ∀ (fuel : Nat) (listed : Array Bool) (a : Act) (w : World), wpAnyH P md ops Q S' fuel listed a w → wpAnyH P md ops Q S fuel listed a w
  | 0, _, _, _, H => H
  | fuel + 1, _, _, _, H => ⟨H.1, fun i hi => wpOp_mono (fun a' w' h' => ⟨h _ h'.1, held_mono h fuel _ a' w' h'.2⟩) (H.2 i hi)⟩

set_option maxHeartbeats 2000000 in
theorem walk (s : ByteArray) (n : Int) (q : Option Addr) (L : List (List UInt8)) (m c : Nat) (p : Option Addr) (l : List UInt8) (k d : Nat) (w : World) (hs : s.size ≤ 140737488351232) (h0 : -9223372036854775808 ≤ n) (h1 : n ≤ 9223372036854775807)
    (hL : L.length = m) (h : Ss w q L) (hz : ∀ s ∈ L, s.length ≤ 140737488351232) (hm : m ≤ 9223372036854775807)
    (hk : l.length = k) (hb : Bs w p l) (hkd : k ≤ d) (hdm : d ≤ 9223372036854775807) (hnil : p = none → d = 0) (hg : Gx w) :
    Calls Tryd.prog 3 #[.string s, .int .i64 n, .agg #[.slice q m c, .slice p k d]] w fun e w' => e = .returned (.bool true) ∧ Below w.heap.size w w' := by
  have HG := Lib.hid hg
  have HS := Lib.hid h
  have HZ := Lib.hid hz
  have HL := Lib.hid hL
  obtain ⟨T, hT⟩ : ∃ T : ByteArray, T = ⟨(s.data.toList.take 100).toArray⟩ := ⟨_, rfl⟩
  have HTz := Lib.hid (show T.size ≤ 100 by rw [hT, size_bytes, List.length_take]; omega)
  have CSh := Lib.hid (fun W => (show Calls Tryd.prog 9 #[.string s] W (fun e w' => e = .returned (.string T) ∧ W = w') by rw [hT]; exact short_any s W hs))
  obtain ⟨M, hM⟩ : ∃ M, M = min k 400 := ⟨_, rfl⟩
  have hM4 : M ≤ 400 := by omega
  have hMd : M ≤ d := by omega
  obtain ⟨lM, hlM⟩ : ∃ lM, lM = l.take M := ⟨_, rfl⟩
  have HlM := Lib.hid (show lM.length = M by rw [hlM, List.length_take]; omega)
  have HB0 := Lib.hid (show k ≤ 400 → k = M ∧ Bs w p lM from fun h4 => ⟨by omega, by rw [hlM, List.take_of_length_le (by omega)]; exact hb⟩)
  have HB4 := Lib.hid (show ¬ k ≤ 400 → M = 400 ∧ Bs w (ReplyT.partAt p d 0) lM ∧ (ReplyT.partAt p d 0 = none → d = 0) from fun h4 => ⟨by omega, by
    have h := partAt_bs (c := d) hb (by rw [hk]; exact hkd) 0 M (by omega)
    rw [hlM]
    rwa [List.drop_zero, Nat.sub_zero] at h, fun h => by have := ReplyT.partAt_none hnil h; omega⟩)
  have HNil := Lib.hid hnil
  obtain ⟨Lf, hLf⟩ : ∃ Lf, Lf = fewL L := ⟨_, rfl⟩
  have HLl := Lib.hid (show Lf.length ≤ 20 by rw [hLf]; exact fewL_len L)
  have HLe := Lib.hid (show ∀ s ∈ Lf, s.length ≤ 100 by rw [hLf]; exact fewL_each L)
  have hBx := below1 w (.cells #[.slice q m c, .slice p k d] 25)
  have CS := Lib.hid (shown_any _ (hg.keep hBx).gt)
  have HBx := Lib.hid hBx
  have HH := Lib.hid (show (w.alloc (.cells #[.slice q m c, .slice p k d] 25)).heap[w.heap.size]? = some (.cells #[.slice q m c, .slice p k d] 25 (0, 0)) by show (w.heap.push _)[w.heap.size]? = _; simp)
  clear h hb hL hz hk hnil hg hT hM hlM hBx
  go_enter Tryd.func3, Tryd.ntmps3
  go_wp2_with fail
  with_reducible refine CS.out.mono ?_
  rintro e w1 ⟨rfl, hb1⟩
  have HB1 := Lib.hid (HBx.out.trans (hb1.mono HBx.out.size))
  have HH1 := Lib.hid ((hb1.block w.heap.size (by simp)).trans HH.out)
  have x0 : w1.cell? ⟨w.heap.size, 0, none⟩ = some (.slice q m c) := by rw [cell_of_row w1 w.heap.size 0 _ _ _ HH1.out]; rfl
  have CF := Lib.hid (few_any q L m c w1 HL.out (HS.out.keep HB1.out) HZ.out hm)
  rw [← hLf] at CF
  clear hb1 CS HH HBx HS HZ HL hLf
  go_wp2_with fail
  with_reducible refine (CSh.out _).mono ?_
  rintro e w' ⟨rfl, rfl⟩
  clear CSh
  go_wp2_with fail
  with_reducible refine CF.out.mono ?_
  rintro e w4 ⟨vf, rfl, hvf, hb4⟩
  obtain ⟨qf, cf, rfl, hSf, hcf, hcmf, hnf⟩ := hvf.ss
  obtain ⟨mf, hmf⟩ : ∃ mf, Lf.length = mf := ⟨_, rfl⟩
  rw [hmf] at hcf ⊢
  have HMf := Lib.hid hmf
  have HSf := Lib.hid hSf
  have HNf := Lib.hid hnf
  have HBf := Lib.hid (HB1.out.trans (hb4.mono HB1.out.size))
  have HH4 := Lib.hid ((hb4.block w.heap.size (Go.block_lt_of_cell x0)).trans HH1.out)
  have x1 : w4.cell? ⟨w.heap.size, 1, none⟩ = some (.slice p k d) := by rw [cell_of_row w4 w.heap.size 1 _ _ _ HH4.out]; rfl
  have hmf20 : mf ≤ 20 := by rw [← hmf]; exact HLl.out
  clear hvf hb4 hSf hmf hnf CF x0 HB1 HH1 HH4
  go_upto_if 28 with fail
  go_cut [9] (fun v wx => ∃ PB, v = .slice PB M d ∧ (PB = none → d = 0) ∧ Hid (Bs w PB lM) ∧ w4 = wx)
  case first =>
    by_cases hk4 : k ≤ 400
    · have d1 : decide (400 < (k : Int)) = false := decide_eq_false (by omega)
      obtain ⟨hkM, hB⟩ := HB0.out hk4
      have HBp := Lib.hid hB
      subst hkM
      clear hB
      go_wp2_with fail
      go_meet
      exact ⟨_, rfl, HNil.out, HBp, rfl⟩
    · have d1 : decide (400 < (k : Int)) = true := decide_eq_true (by omega)
      obtain ⟨hkM, hB, hn4⟩ := HB4.out hk4
      have HBp := Lib.hid hB
      have HN4 := Lib.hid hn4
      have q1 : ∀ W, (Instr.slice 23 (.slice p k d) none (some (.int .i64 400)) none).run Tryd.prog W = .ok (.slice (ReplyT.partAt p d 0) M d) W := fun W => by
        have h := sl_h p k d 400 (by omega) W
        rw [hkM]
        exact h
      obtain ⟨PB, hPB⟩ : ∃ PB, PB = ReplyT.partAt p d 0 := ⟨_, rfl⟩
      rw [← hPB] at HBp HN4 q1
      clear hB hn4 hPB
      go_wp2_with fail
      go_meet
      exact ⟨_, by rw [hkM], HN4.out, HBp, rfl⟩
  case rest =>
  obtain ⟨PB, rfl, hnPB, HBp, rfl⟩ := hcut
  have HBp4 := Lib.hid (HBp.out.keep HBf.out)
  have CT := Lib.hid (take_any PB lM M d w4 HlM.out HBp4.out hMd hdm (by omega) hnPB (HG.out.keep HBf.out))
  clear HB0 HB4 x1
  go_wp2_with fail
  with_reducible refine CT.out.mono ?_
  intro e w5 hp
  obtain ⟨hb5, vx, vr, ok, X, R, rfl, hX, hR, ht, hf⟩ := take_two hp
  obtain ⟨nX, hnX⟩ : ∃ nX, X.length = nX := ⟨_, rfl⟩
  obtain ⟨nR, hnR⟩ : ∃ nR, R.length = nR := ⟨_, rfl⟩
  obtain ⟨px, cx, rfl, hBX, -⟩ := ok_slice hX nX hnX
  obtain ⟨pr, cr, rfl, hBR, -⟩ := ok_slice hR nR hnR
  have HT1 := Lib.hid ht
  have HT2 := Lib.hid hf
  have HBX := Lib.hid hBX
  have HBR := Lib.hid hBR
  have HnX := Lib.hid hnX
  have HnR := Lib.hid hnR
  have HB5 := Lib.hid (HBf.out.trans (hb5.mono HBf.out.size))
  have CT2 := Lib.hid (rtake PB lM M d w5 HlM.out (HBp4.out.keep hb5) hMd hdm (by omega) hnPB)
  have HSf5 := Lib.hid (HSf.out.keep hb5)
  clear hp hb5 hX hR ht hf hBX hBR hnX hnR CT
  go_wp2_with fail
  with_reducible refine CT2.out.mono ?_
  intro e w6 hp
  obtain ⟨hb6, vy, vq, is, X', R', rfl, hX, hR, ht, hf⟩ := take_two hp
  obtain ⟨hok, hXX, hRR⟩ := same_two HT1.out HT2.out ht hf
  subst hok hXX hRR
  obtain ⟨py, cy, rfl, hBY, -⟩ := ok_slice hX nX HnX.out
  obtain ⟨pq, cq, rfl, hBQ, -⟩ := ok_slice hR nR HnR.out
  have HB6 := Lib.hid (HB5.out.trans (hb6.mono HB5.out.size))
  have HSf6 := Lib.hid (HSf5.out.keep hb6)
  have HBX6 := Lib.hid (HBX.out.keep hb6)
  have HBR6 := Lib.hid (HBR.out.keep hb6)
  have HBY6 := Lib.hid hBY
  have HBQ6 := Lib.hid hBQ
  clear hp hb6 hX hR ht hf hBY hBQ CT2 HT1 HT2 HBX HBR HSf5
  have hTz := HTz.out
  have HGw := Lib.hid (fun W (h : Below w6.heap.size w6 W) => HG.out.keep (HB6.out.trans (h.mono HB6.out.size)))
  obtain ⟨N1, hN1⟩ : ∃ N1, (simple T.data.toList).length = N1 := ⟨_, rfl⟩
  obtain ⟨X1, hX1⟩ : ∃ X1 : ByteArray, X1 = ⟨(simple T.data.toList).toArray⟩ := ⟨_, rfl⟩
  obtain ⟨N2, hN2⟩ : ∃ N2, (err T.data.toList).length = N2 := ⟨_, rfl⟩
  obtain ⟨X2, hX2⟩ : ∃ X2 : ByteArray, X2 = ⟨(err T.data.toList).toArray⟩ := ⟨_, rfl⟩
  obtain ⟨N3, hN3⟩ : ∃ N3, (int n).length = N3 := ⟨_, rfl⟩
  obtain ⟨X3, hX3⟩ : ∃ X3 : ByteArray, X3 = ⟨(int n).toArray⟩ := ⟨_, rfl⟩
  obtain ⟨N4, hN4⟩ : ∃ N4, (bulk T.data.toList).length = N4 := ⟨_, rfl⟩
  obtain ⟨X4, hX4⟩ : ∃ X4 : ByteArray, X4 = ⟨(bulk T.data.toList).toArray⟩ := ⟨_, rfl⟩
  obtain ⟨N5, hN5⟩ : ∃ N5, (null).length = N5 := ⟨_, rfl⟩
  obtain ⟨X5, hX5⟩ : ∃ X5 : ByteArray, X5 = ⟨(null).toArray⟩ := ⟨_, rfl⟩
  obtain ⟨N6, hN6⟩ : ∃ N6, (noArray).length = N6 := ⟨_, rfl⟩
  obtain ⟨X6, hX6⟩ : ∃ X6 : ByteArray, X6 = ⟨(noArray).toArray⟩ := ⟨_, rfl⟩
  obtain ⟨N7, hN7⟩ : ∃ N7, (texts Lf).length = N7 := ⟨_, rfl⟩
  obtain ⟨X7, hX7⟩ : ∃ X7 : ByteArray, X7 = ⟨(texts Lf).toArray⟩ := ⟨_, rfl⟩
  have HNs := Lib.hid (And.intro hN1 (And.intro hX1 (And.intro hN2 (And.intro hX2 (And.intro hN3 (And.intro hX3 (And.intro hN4 (And.intro hX4 (And.intro hN5 (And.intro hX5 (And.intro hN6 (And.intro hX6 (And.intro hN7 hX7)))))))))))))
  clear hN1 hX1 hN2 hX2 hN3 hX3 hN4 hX4 hN5 hX5 hN6 hX6 hN7 hX7
  go_upto_region 9 with fail
  go_cut [16] (fun v wx => v = .bool true ∧ Hid (Below w6.heap.size w6 wx))
  case first =>
    obtain ⟨hN1, hX1, hN2, hX2, hN3, hX3, hN4, hX4, hN5, hX5, hN6, hX6, hN7, hX7⟩ := HNs.out
    have A1 := Lib.hid (fun W (h : Below w6.heap.size w6 W) => (show Calls Tryd.prog 13 #[.string T] W (Said w6 W N1 X1) from (simple_any T W (by omega) (HGw.out W h)).mono (fun e w' hh => Gives.said hh h N1 hN1 X1 hX1)))
    have A2 := Lib.hid (fun W (h : Below w6.heap.size w6 W) => (show Calls Tryd.prog 14 #[.string T] W (Said w6 W N1 X1) from (rsimple T W (by omega)).mono (fun e w' hh => Gives.said hh h N1 hN1 X1 hX1)))
    have A3 := Lib.hid (fun W (h : Below w6.heap.size w6 W) => (show Calls Tryd.prog 15 #[.string T] W (Said w6 W N2 X2) from (err_any T W (by omega) (HGw.out W h)).mono (fun e w' hh => Gives.said hh h N2 hN2 X2 hX2)))
    have A4 := Lib.hid (fun W (h : Below w6.heap.size w6 W) => (show Calls Tryd.prog 16 #[.string T] W (Said w6 W N2 X2) from (rerr T W (by omega)).mono (fun e w' hh => Gives.said hh h N2 hN2 X2 hX2)))
    have A5 := Lib.hid (fun W (h : Below w6.heap.size w6 W) => (show Calls Tryd.prog 17 #[.int .i64 n] W (Said w6 W N3 X3) from (int_any n W h0 h1 (HGw.out W h)).mono (fun e w' hh => Gives.said hh h N3 hN3 X3 hX3)))
    have A6 := Lib.hid (fun W (h : Below w6.heap.size w6 W) => (show Calls Tryd.prog 18 #[.int .i64 n] W (Said w6 W N3 X3) from (rint n W h0 h1).mono (fun e w' hh => Gives.said hh h N3 hN3 X3 hX3)))
    have A7 := Lib.hid (fun W (h : Below w6.heap.size w6 W) => (show Calls Tryd.prog 19 #[.string T] W (Said w6 W N4 X4) from (bulk_any T W (by omega) (HGw.out W h)).mono (fun e w' hh => Gives.said hh h N4 hN4 X4 hX4)))
    have A8 := Lib.hid (fun W (h : Below w6.heap.size w6 W) => (show Calls Tryd.prog 20 #[.string T] W (Said w6 W N4 X4) from (rbulk T W (by omega)).mono (fun e w' hh => Gives.said hh h N4 hN4 X4 hX4)))
    clear hN1 hX1 hN2 hX2 hN3 hX3 hN4 hX4 hN5 hX5 hN6 hX6 hN7 hX7 HNs
    clear HGw HSf6 HBX6 HBR6 HBY6 HBQ6 HTz HLl HLe HMf HNf HSf HBf HBp HBp4 HlM HB6 HB5 HnX HnR HNil HG hTz
    refine wp_region_held_drew (S := fun W => Below w6.heap.size w6 W) (by kernel_rfl) ?_ (fun hHeld => ?_)
    · exact (Below.refl _ _).drew
    refine wpAnyH_take (i := 0) (v := ?_) rfl (by kernel_rfl) (by kernel_rfl) (by kernel_rfl) (fun _ _ _ h => h) (Or.inl ⟨by rfl, ?_⟩) (by assumption) ?_
    rotate_left
    · intro W0 hSw; (try dsimp only at hSw); go_simp; all_goals (with_reducible rfl)
    try simp only [Act.put, List.getElem_toArray, List.getElem_cons_succ, List.getElem_cons_zero, List.setIfInBounds_toArray, List.set_cons_zero, List.set_cons_succ]
    refine wpAnyH_take (i := 3) (v := ?_) rfl (by kernel_rfl) (by kernel_rfl) (by kernel_rfl) (fun _ _ _ h => h) (Or.inl ⟨by rfl, ?_⟩) (by assumption) ?_
    rotate_left
    · intro W0 hSw; (try dsimp only at hSw); go_simp; all_goals (with_reducible rfl)
    try simp only [Act.put, List.getElem_toArray, List.getElem_cons_succ, List.getElem_cons_zero, List.setIfInBounds_toArray, List.set_cons_zero, List.set_cons_succ]
    refine wpAnyH_ready (rs := [1]) (by kernel_rfl) (by simp) ?_
    refine AllReadyH.cons rfl (fun K hK => ?_) AllReadyH.nil
    go_simp
    go_wp2_with (go_at_call 13; (refine (A1.out _ (by assumption)).mono ?_); rintro e wA0 ⟨pA0, cA0, rfl, cv0, bx0, by0, bz0⟩)
    refine hK.out _ _ ?_ (fun hHeld => ?_)
    · assumption
    clear hK K hHeld
    refine held_mono (S' := fun W => Below wA0.heap.size wA0 W) (fun W hW => bx0.trans (hW.mono bx0.size)) _ _ _ _ ?_
    refine wpAnyH_take (i := 2) (v := ?_) rfl (by kernel_rfl) (by kernel_rfl) (by kernel_rfl) (fun _ _ _ h => h) (Or.inl ⟨by rfl, ?_⟩) (by assumption) ?_
    rotate_left
    · intro W0 hSw; (try dsimp only at hSw); go_simp; all_goals (with_reducible rfl)
    try simp only [Act.put, List.getElem_toArray, List.getElem_cons_succ, List.getElem_cons_zero, List.setIfInBounds_toArray, List.set_cons_zero, List.set_cons_succ]
    refine wpAnyH_ready (rs := [4]) (by kernel_rfl) (by simp) ?_
    refine AllReadyH.cons rfl (fun K hK => ?_) AllReadyH.nil
    go_simp
    go_wp2_with (go_at_call 14; (refine (A2.out _ (by assumption)).mono ?_); rintro e wA1 ⟨pA1, cA1, rfl, cv1, bx1, by1, bz1⟩)
    refine hK.out _ _ ?_ (fun hHeld => ?_)
    · assumption
    clear hK K hHeld
    refine held_mono (S' := fun W => Below wA1.heap.size wA1 W) (fun W hW => by1.trans (hW.mono by1.size)) _ _ _ _ ?_
    refine wpAnyH_take (i := 5) (v := ?_) rfl (by kernel_rfl) (by kernel_rfl) (by kernel_rfl) (fun _ _ _ h => h) (Or.inl ⟨by rfl, ?_⟩) (by assumption) ?_
    rotate_left
    · intro W0 hSw; (try dsimp only at hSw); go_simp; all_goals (with_reducible rfl)
    try simp only [Act.put, List.getElem_toArray, List.getElem_cons_succ, List.getElem_cons_zero, List.setIfInBounds_toArray, List.set_cons_zero, List.set_cons_succ]
    refine wpAnyH_take (i := 6) (v := ?_) rfl (by kernel_rfl) (by kernel_rfl) (by kernel_rfl) (fun _ _ _ h => h) (Or.inl ⟨by rfl, ?_⟩) (by assumption) ?_
    rotate_left
    · intro W0 hSw; (try dsimp only at hSw); go_simp; all_goals (with_reducible rfl)
    try simp only [Act.put, List.getElem_toArray, List.getElem_cons_succ, List.getElem_cons_zero, List.setIfInBounds_toArray, List.set_cons_zero, List.set_cons_succ]
    refine wpAnyH_take (i := 7) (v := ?_) rfl (by kernel_rfl) (by kernel_rfl) (by kernel_rfl) (fun _ _ _ h => h) (Or.inl ⟨by rfl, ?_⟩) (by assumption) ?_
    rotate_left
    · intro W0 hSw; (try dsimp only at hSw); go_simp; all_goals (with_reducible rfl)
    try simp only [Act.put, List.getElem_toArray, List.getElem_cons_succ, List.getElem_cons_zero, List.setIfInBounds_toArray, List.set_cons_zero, List.set_cons_succ]
    refine wpAnyH_take (i := 8) (v := ?_) rfl (by kernel_rfl) (by kernel_rfl) (by kernel_rfl) (fun _ _ _ h => h) (Or.inl ⟨by rfl, ?_⟩) (by assumption) ?_
    rotate_left
    · intro W0 hSw; (try dsimp only at hSw); go_simp; all_goals (with_reducible rfl)
    try simp only [Act.put, List.getElem_toArray, List.getElem_cons_succ, List.getElem_cons_zero, List.setIfInBounds_toArray, List.set_cons_zero, List.set_cons_succ]
    refine wpAnyH_take (i := 11) (v := ?_) rfl (by kernel_rfl) (by kernel_rfl) (by kernel_rfl) (fun _ _ _ h => h) (Or.inl ⟨by rfl, ?_⟩) (by assumption) ?_
    rotate_left
    · intro W0 hSw; (try dsimp only at hSw); go_simp; all_goals (with_reducible rfl)
    try simp only [Act.put, List.getElem_toArray, List.getElem_cons_succ, List.getElem_cons_zero, List.setIfInBounds_toArray, List.set_cons_zero, List.set_cons_succ]
    refine wpAnyH_ready (rs := [9]) (by kernel_rfl) (by simp) ?_
    refine AllReadyH.cons rfl (fun K hK => ?_) AllReadyH.nil
    go_simp
    go_wp2_with (go_at_call 15; (refine (A3.out _ (by assumption)).mono ?_); rintro e wA2 ⟨pA2, cA2, rfl, cv2, bx2, by2, bz2⟩)
    refine hK.out _ _ ?_ (fun hHeld => ?_)
    · assumption
    clear hK K hHeld
    refine held_mono (S' := fun W => Below wA2.heap.size wA2 W) (fun W hW => by2.trans (hW.mono by2.size)) _ _ _ _ ?_
    refine wpAnyH_take (i := 10) (v := ?_) rfl (by kernel_rfl) (by kernel_rfl) (by kernel_rfl) (fun _ _ _ h => h) (Or.inl ⟨by rfl, ?_⟩) (by assumption) ?_
    rotate_left
    · intro W0 hSw; (try dsimp only at hSw); go_simp; all_goals (with_reducible rfl)
    try simp only [Act.put, List.getElem_toArray, List.getElem_cons_succ, List.getElem_cons_zero, List.setIfInBounds_toArray, List.set_cons_zero, List.set_cons_succ]
    refine wpAnyH_ready (rs := [12]) (by kernel_rfl) (by simp) ?_
    refine AllReadyH.cons rfl (fun K hK => ?_) AllReadyH.nil
    go_simp
    go_wp2_with (go_at_call 16; (refine (A4.out _ (by assumption)).mono ?_); rintro e wA3 ⟨pA3, cA3, rfl, cv3, bx3, by3, bz3⟩)
    refine hK.out _ _ ?_ (fun hHeld => ?_)
    · assumption
    clear hK K hHeld
    refine held_mono (S' := fun W => Below wA3.heap.size wA3 W) (fun W hW => by3.trans (hW.mono by3.size)) _ _ _ _ ?_
    refine wpAnyH_take (i := 13) (v := ?_) rfl (by kernel_rfl) (by kernel_rfl) (by kernel_rfl) (fun _ _ _ h => h) (Or.inl ⟨by rfl, ?_⟩) (by assumption) ?_
    rotate_left
    · intro W0 hSw; (try dsimp only at hSw); go_simp; all_goals (with_reducible rfl)
    try simp only [Act.put, List.getElem_toArray, List.getElem_cons_succ, List.getElem_cons_zero, List.setIfInBounds_toArray, List.set_cons_zero, List.set_cons_succ]
    refine wpAnyH_take (i := 14) (v := ?_) rfl (by kernel_rfl) (by kernel_rfl) (by kernel_rfl) (fun _ _ _ h => h) (Or.inl ⟨by rfl, ?_⟩) (by assumption) ?_
    rotate_left
    · intro W0 hSw; (try dsimp only at hSw); go_simp; all_goals (with_reducible rfl)
    try simp only [Act.put, List.getElem_toArray, List.getElem_cons_succ, List.getElem_cons_zero, List.setIfInBounds_toArray, List.set_cons_zero, List.set_cons_succ]
    refine wpAnyH_take (i := 15) (v := ?_) rfl (by kernel_rfl) (by kernel_rfl) (by kernel_rfl) (fun _ _ _ h => h) (Or.inl ⟨by rfl, ?_⟩) (by assumption) ?_
    rotate_left
    · intro W0 hSw; (try dsimp only at hSw); go_simp; all_goals (with_reducible rfl)
    try simp only [Act.put, List.getElem_toArray, List.getElem_cons_succ, List.getElem_cons_zero, List.setIfInBounds_toArray, List.set_cons_zero, List.set_cons_succ]
    refine wpAnyH_take (i := 16) (v := ?_) rfl (by kernel_rfl) (by kernel_rfl) (by kernel_rfl) (fun _ _ _ h => h) (Or.inl ⟨by rfl, ?_⟩) (by assumption) ?_
    rotate_left
    · intro W0 hSw; (try dsimp only at hSw); go_simp; all_goals (with_reducible rfl)
    try simp only [Act.put, List.getElem_toArray, List.getElem_cons_succ, List.getElem_cons_zero, List.setIfInBounds_toArray, List.set_cons_zero, List.set_cons_succ]
    refine wpAnyH_take (i := 17) (v := ?_) rfl (by kernel_rfl) (by kernel_rfl) (by kernel_rfl) (fun _ _ _ h => h) (Or.inl ⟨by rfl, ?_⟩) (by assumption) ?_
    rotate_left
    · intro W0 hSw; (try dsimp only at hSw); go_simp; all_goals (with_reducible rfl)
    try simp only [Act.put, List.getElem_toArray, List.getElem_cons_succ, List.getElem_cons_zero, List.setIfInBounds_toArray, List.set_cons_zero, List.set_cons_succ]
    refine wpAnyH_take (i := 20) (v := ?_) rfl (by kernel_rfl) (by kernel_rfl) (by kernel_rfl) (fun _ _ _ h => h) (Or.inl ⟨by rfl, ?_⟩) (by assumption) ?_
    rotate_left
    · intro W0 hSw; (try dsimp only at hSw); go_simp; all_goals (with_reducible rfl)
    try simp only [Act.put, List.getElem_toArray, List.getElem_cons_succ, List.getElem_cons_zero, List.setIfInBounds_toArray, List.set_cons_zero, List.set_cons_succ]
    refine wpAnyH_ready (rs := [18]) (by kernel_rfl) (by simp) ?_
    refine AllReadyH.cons rfl (fun K hK => ?_) AllReadyH.nil
    go_simp
    go_wp2_with (go_at_call 17; (refine (A5.out _ (by assumption)).mono ?_); rintro e wA4 ⟨pA4, cA4, rfl, cv4, bx4, by4, bz4⟩)
    refine hK.out _ _ ?_ (fun hHeld => ?_)
    · assumption
    clear hK K hHeld
    refine held_mono (S' := fun W => Below wA4.heap.size wA4 W) (fun W hW => by4.trans (hW.mono by4.size)) _ _ _ _ ?_
    refine wpAnyH_take (i := 19) (v := ?_) rfl (by kernel_rfl) (by kernel_rfl) (by kernel_rfl) (fun _ _ _ h => h) (Or.inl ⟨by rfl, ?_⟩) (by assumption) ?_
    rotate_left
    · intro W0 hSw; (try dsimp only at hSw); go_simp; all_goals (with_reducible rfl)
    try simp only [Act.put, List.getElem_toArray, List.getElem_cons_succ, List.getElem_cons_zero, List.setIfInBounds_toArray, List.set_cons_zero, List.set_cons_succ]
    refine wpAnyH_ready (rs := [21]) (by kernel_rfl) (by simp) ?_
    refine AllReadyH.cons rfl (fun K hK => ?_) AllReadyH.nil
    go_simp
    go_wp2_with (go_at_call 18; (refine (A6.out _ (by assumption)).mono ?_); rintro e wA5 ⟨pA5, cA5, rfl, cv5, bx5, by5, bz5⟩)
    refine hK.out _ _ ?_ (fun hHeld => ?_)
    · assumption
    clear hK K hHeld
    refine held_mono (S' := fun W => Below wA5.heap.size wA5 W) (fun W hW => by5.trans (hW.mono by5.size)) _ _ _ _ ?_
    refine wpAnyH_take (i := 22) (v := ?_) rfl (by kernel_rfl) (by kernel_rfl) (by kernel_rfl) (fun _ _ _ h => h) (Or.inl ⟨by rfl, ?_⟩) (by assumption) ?_
    rotate_left
    · intro W0 hSw; (try dsimp only at hSw); go_simp; all_goals (with_reducible rfl)
    try simp only [Act.put, List.getElem_toArray, List.getElem_cons_succ, List.getElem_cons_zero, List.setIfInBounds_toArray, List.set_cons_zero, List.set_cons_succ]
    refine wpAnyH_take (i := 23) (v := ?_) rfl (by kernel_rfl) (by kernel_rfl) (by kernel_rfl) (fun _ _ _ h => h) (Or.inl ⟨by rfl, ?_⟩) (by assumption) ?_
    rotate_left
    · intro W0 hSw; (try dsimp only at hSw); go_simp; all_goals (with_reducible rfl)
    try simp only [Act.put, List.getElem_toArray, List.getElem_cons_succ, List.getElem_cons_zero, List.setIfInBounds_toArray, List.set_cons_zero, List.set_cons_succ]
    refine wpAnyH_take (i := 24) (v := ?_) rfl (by kernel_rfl) (by kernel_rfl) (by kernel_rfl) (fun _ _ _ h => h) (Or.inl ⟨by rfl, ?_⟩) (by assumption) ?_
    rotate_left
    · intro W0 hSw; (try dsimp only at hSw); go_simp; all_goals (with_reducible rfl)
    try simp only [Act.put, List.getElem_toArray, List.getElem_cons_succ, List.getElem_cons_zero, List.setIfInBounds_toArray, List.set_cons_zero, List.set_cons_succ]
    refine wpAnyH_take (i := 25) (v := ?_) rfl (by kernel_rfl) (by kernel_rfl) (by kernel_rfl) (fun _ _ _ h => h) (Or.inl ⟨by rfl, ?_⟩) (by assumption) ?_
    rotate_left
    · intro W0 hSw; (try dsimp only at hSw); go_simp; all_goals (with_reducible rfl)
    try simp only [Act.put, List.getElem_toArray, List.getElem_cons_succ, List.getElem_cons_zero, List.setIfInBounds_toArray, List.set_cons_zero, List.set_cons_succ]
    refine wpAnyH_take (i := 26) (v := ?_) rfl (by kernel_rfl) (by kernel_rfl) (by kernel_rfl) (fun _ _ _ h => h) (Or.inl ⟨by rfl, ?_⟩) (by assumption) ?_
    rotate_left
    · intro W0 hSw; (try dsimp only at hSw); go_simp; all_goals (with_reducible rfl)
    try simp only [Act.put, List.getElem_toArray, List.getElem_cons_succ, List.getElem_cons_zero, List.setIfInBounds_toArray, List.set_cons_zero, List.set_cons_succ]
    refine wpAnyH_take (i := 29) (v := ?_) rfl (by kernel_rfl) (by kernel_rfl) (by kernel_rfl) (fun _ _ _ h => h) (Or.inl ⟨by rfl, ?_⟩) (by assumption) ?_
    rotate_left
    · intro W0 hSw; (try dsimp only at hSw); go_simp; all_goals (with_reducible rfl)
    try simp only [Act.put, List.getElem_toArray, List.getElem_cons_succ, List.getElem_cons_zero, List.setIfInBounds_toArray, List.set_cons_zero, List.set_cons_succ]
    refine wpAnyH_ready (rs := [27]) (by kernel_rfl) (by simp) ?_
    refine AllReadyH.cons rfl (fun K hK => ?_) AllReadyH.nil
    go_simp
    go_wp2_with (go_at_call 19; (refine (A7.out _ (by assumption)).mono ?_); rintro e wA6 ⟨pA6, cA6, rfl, cv6, bx6, by6, bz6⟩)
    refine hK.out _ _ ?_ (fun hHeld => ?_)
    · assumption
    clear hK K hHeld
    refine held_mono (S' := fun W => Below wA6.heap.size wA6 W) (fun W hW => by6.trans (hW.mono by6.size)) _ _ _ _ ?_
    refine wpAnyH_take (i := 28) (v := ?_) rfl (by kernel_rfl) (by kernel_rfl) (by kernel_rfl) (fun _ _ _ h => h) (Or.inl ⟨by rfl, ?_⟩) (by assumption) ?_
    rotate_left
    · intro W0 hSw; (try dsimp only at hSw); go_simp; all_goals (with_reducible rfl)
    try simp only [Act.put, List.getElem_toArray, List.getElem_cons_succ, List.getElem_cons_zero, List.setIfInBounds_toArray, List.set_cons_zero, List.set_cons_succ]
    refine wpAnyH_ready (rs := [30]) (by kernel_rfl) (by simp) ?_
    refine AllReadyH.cons rfl (fun K hK => ?_) AllReadyH.nil
    go_simp
    go_wp2_with (go_at_call 20; (refine (A8.out _ (by assumption)).mono ?_); rintro e wA7 ⟨pA7, cA7, rfl, cv7, bx7, by7, bz7⟩)
    refine hK.out _ _ ?_ (fun hHeld => ?_)
    · assumption
    clear hK K hHeld
    refine held_mono (S' := fun W => Below wA7.heap.size wA7 W) (fun W hW => by7.trans (hW.mono by7.size)) _ _ _ _ ?_
    refine wpAnyH_take (i := 31) (v := ?_) rfl (by kernel_rfl) (by kernel_rfl) (by kernel_rfl) (fun _ _ _ h => h) (Or.inl ⟨by rfl, ?_⟩) (by assumption) ?_
    rotate_left
    · intro W0 hSw; (try dsimp only at hSw); go_simp; all_goals (with_reducible rfl)
    try simp only [Act.put, List.getElem_toArray, List.getElem_cons_succ, List.getElem_cons_zero, List.setIfInBounds_toArray, List.set_cons_zero, List.set_cons_succ]
    refine wpAnyH_take (i := 32) (v := ?_) rfl (by kernel_rfl) (by kernel_rfl) (by kernel_rfl) (fun _ _ _ h => h) (Or.inl ⟨by rfl, ?_⟩) (by assumption) ?_
    rotate_left
    · intro W0 hSw; (try dsimp only at hSw); go_simp; all_goals (with_reducible rfl)
    try simp only [Act.put, List.getElem_toArray, List.getElem_cons_succ, List.getElem_cons_zero, List.setIfInBounds_toArray, List.set_cons_zero, List.set_cons_succ]
    refine wpAnyH_take (i := 33) (v := ?_) rfl (by kernel_rfl) (by kernel_rfl) (by kernel_rfl) (fun _ _ _ h => h) (Or.inl ⟨by rfl, ?_⟩) (by assumption) ?_
    rotate_left
    · intro W0 hSw; (try dsimp only at hSw); go_simp; all_goals (with_reducible rfl)
    try simp only [Act.put, List.getElem_toArray, List.getElem_cons_succ, List.getElem_cons_zero, List.setIfInBounds_toArray, List.set_cons_zero, List.set_cons_succ]
    refine wpAnyH_take (i := 34) (v := ?_) rfl (by kernel_rfl) (by kernel_rfl) (by kernel_rfl) (fun _ _ _ h => h) (Or.inl ⟨by rfl, ?_⟩) (by assumption) ?_
    rotate_left
    · intro W0 hSw; (try dsimp only at hSw); go_simp; all_goals (with_reducible rfl)
    try simp only [Act.put, List.getElem_toArray, List.getElem_cons_succ, List.getElem_cons_zero, List.setIfInBounds_toArray, List.set_cons_zero, List.set_cons_succ]
    refine wpAnyH_done (by kernel_rfl) ?_ _
    go_wp2_with fail
    go_meet
    exact ⟨rfl, Lib.hid bx7⟩
  case rest =>
  obtain ⟨rfl, HC⟩ := hcut
  have hC := HC.out
  go_upto_region 10 with fail
  go_cut [17] (fun v wx => v = .bool true ∧ Hid (Below w6.heap.size w6 wx))
  case first =>
    obtain ⟨hN1, hX1, hN2, hX2, hN3, hX3, hN4, hX4, hN5, hX5, hN6, hX6, hN7, hX7⟩ := HNs.out
    have E1 := Lib.hid (fun W (h : Below w6.heap.size w6 W) => (show Calls Tryd.prog 21 #[] W (Said w6 W N5 X5) from (null_any W (HGw.out W h)).mono (fun e w' hh => Gives.said hh h N5 hN5 X5 hX5)))
    have E2 := Lib.hid (fun W (h : Below w6.heap.size w6 W) => (show Calls Tryd.prog 22 #[] W (Said w6 W N5 X5) from (rnull W).mono (fun e w' hh => Gives.said hh h N5 hN5 X5 hX5)))
    have E3 := Lib.hid (fun W (h : Below w6.heap.size w6 W) => (show Calls Tryd.prog 23 #[] W (Said w6 W N6 X6) from (noArray_any W (HGw.out W h)).mono (fun e w' hh => Gives.said hh h N6 hN6 X6 hX6)))
    have E4 := Lib.hid (fun W (h : Below w6.heap.size w6 W) => (show Calls Tryd.prog 24 #[] W (Said w6 W N6 X6) from (rnoArray W).mono (fun e w' hh => Gives.said hh h N6 hN6 X6 hX6)))
    have E5 := Lib.hid (fun W (h : Below w6.heap.size w6 W) => (show Calls Tryd.prog 25 #[.slice qf mf cf] W (Said w6 W N7 X7) from (texts_any qf Lf mf cf W HMf.out (HSf6.out.keep h) hcf hcmf HNf.out (by omega) (fun s hs => by have := HLe.out s hs; omega) (HGw.out W h)).mono (fun e w' hh => Gives.said hh h N7 hN7 X7 hX7)))
    have E6 := Lib.hid (fun W (h : Below w6.heap.size w6 W) => (show Calls Tryd.prog 26 #[.slice qf mf cf] W (Said w6 W N7 X7) from (rtexts qf Lf mf cf W HMf.out (HSf6.out.keep h) (by omega) (fun s hs => by have := HLe.out s hs; omega)).mono (fun e w' hh => Gives.said hh h N7 hN7 X7 hX7)))
    clear hN1 hX1 hN2 hX2 hN3 hX3 hN4 hX4 hN5 hX5 hN6 hX6 hN7 hX7 HNs
    clear HGw HSf6 HBX6 HBR6 HBY6 HBQ6 HTz HLl HLe HMf HNf HSf HBf HBp HBp4 HlM HB6 HB5 HnX HnR HNil HG hTz
    refine wp_region_held_drew (S := fun W => Below w6.heap.size w6 W) (by kernel_rfl) ?_ (fun hHeld => ?_)
    · exact hC.drew
    refine wpAnyH_ready (rs := [0]) (by kernel_rfl) (by simp) ?_
    refine AllReadyH.cons rfl (fun K hK => ?_) AllReadyH.nil
    go_simp
    go_wp2_with (go_at_call 21; (refine (E1.out _ (by assumption)).mono ?_); rintro e wA0 ⟨pA0, cA0, rfl, cv0, bx0, by0, bz0⟩)
    refine hK.out _ _ ?_ (fun hHeld => ?_)
    · assumption
    clear hK K hHeld
    refine held_mono (S' := fun W => Below wA0.heap.size wA0 W) (fun W hW => bx0.trans (hW.mono bx0.size)) _ _ _ _ ?_
    refine wpAnyH_take (i := 1) (v := ?_) rfl (by kernel_rfl) (by kernel_rfl) (by kernel_rfl) (fun _ _ _ h => h) (Or.inl ⟨by rfl, ?_⟩) (by assumption) ?_
    rotate_left
    · intro W0 hSw; (try dsimp only at hSw); go_simp; all_goals (with_reducible rfl)
    try simp only [Act.put, List.getElem_toArray, List.getElem_cons_succ, List.getElem_cons_zero, List.setIfInBounds_toArray, List.set_cons_zero, List.set_cons_succ]
    refine wpAnyH_ready (rs := [2]) (by kernel_rfl) (by simp) ?_
    refine AllReadyH.cons rfl (fun K hK => ?_) AllReadyH.nil
    go_simp
    go_wp2_with (go_at_call 22; (refine (E2.out _ (by assumption)).mono ?_); rintro e wA1 ⟨pA1, cA1, rfl, cv1, bx1, by1, bz1⟩)
    refine hK.out _ _ ?_ (fun hHeld => ?_)
    · assumption
    clear hK K hHeld
    refine held_mono (S' := fun W => Below wA1.heap.size wA1 W) (fun W hW => by1.trans (hW.mono by1.size)) _ _ _ _ ?_
    refine wpAnyH_take (i := 3) (v := ?_) rfl (by kernel_rfl) (by kernel_rfl) (by kernel_rfl) (fun _ _ _ h => h) (Or.inl ⟨by rfl, ?_⟩) (by assumption) ?_
    rotate_left
    · intro W0 hSw; (try dsimp only at hSw); go_simp; all_goals (with_reducible rfl)
    try simp only [Act.put, List.getElem_toArray, List.getElem_cons_succ, List.getElem_cons_zero, List.setIfInBounds_toArray, List.set_cons_zero, List.set_cons_succ]
    refine wpAnyH_take (i := 4) (v := ?_) rfl (by kernel_rfl) (by kernel_rfl) (by kernel_rfl) (fun _ _ _ h => h) (Or.inl ⟨by rfl, ?_⟩) (by assumption) ?_
    rotate_left
    · intro W0 hSw; (try dsimp only at hSw); go_simp; all_goals (with_reducible rfl)
    try simp only [Act.put, List.getElem_toArray, List.getElem_cons_succ, List.getElem_cons_zero, List.setIfInBounds_toArray, List.set_cons_zero, List.set_cons_succ]
    refine wpAnyH_take (i := 5) (v := ?_) rfl (by kernel_rfl) (by kernel_rfl) (by kernel_rfl) (fun _ _ _ h => h) (Or.inl ⟨by rfl, ?_⟩) (by assumption) ?_
    rotate_left
    · intro W0 hSw; (try dsimp only at hSw); go_simp; all_goals (with_reducible rfl)
    try simp only [Act.put, List.getElem_toArray, List.getElem_cons_succ, List.getElem_cons_zero, List.setIfInBounds_toArray, List.set_cons_zero, List.set_cons_succ]
    refine wpAnyH_ready (rs := [6]) (by kernel_rfl) (by simp) ?_
    refine AllReadyH.cons rfl (fun K hK => ?_) AllReadyH.nil
    go_simp
    go_wp2_with (go_at_call 23; (refine (E3.out _ (by assumption)).mono ?_); rintro e wA2 ⟨pA2, cA2, rfl, cv2, bx2, by2, bz2⟩)
    refine hK.out _ _ ?_ (fun hHeld => ?_)
    · assumption
    clear hK K hHeld
    refine held_mono (S' := fun W => Below wA2.heap.size wA2 W) (fun W hW => by2.trans (hW.mono by2.size)) _ _ _ _ ?_
    refine wpAnyH_take (i := 7) (v := ?_) rfl (by kernel_rfl) (by kernel_rfl) (by kernel_rfl) (fun _ _ _ h => h) (Or.inl ⟨by rfl, ?_⟩) (by assumption) ?_
    rotate_left
    · intro W0 hSw; (try dsimp only at hSw); go_simp; all_goals (with_reducible rfl)
    try simp only [Act.put, List.getElem_toArray, List.getElem_cons_succ, List.getElem_cons_zero, List.setIfInBounds_toArray, List.set_cons_zero, List.set_cons_succ]
    refine wpAnyH_ready (rs := [8]) (by kernel_rfl) (by simp) ?_
    refine AllReadyH.cons rfl (fun K hK => ?_) AllReadyH.nil
    go_simp
    go_wp2_with (go_at_call 24; (refine (E4.out _ (by assumption)).mono ?_); rintro e wA3 ⟨pA3, cA3, rfl, cv3, bx3, by3, bz3⟩)
    refine hK.out _ _ ?_ (fun hHeld => ?_)
    · assumption
    clear hK K hHeld
    refine held_mono (S' := fun W => Below wA3.heap.size wA3 W) (fun W hW => by3.trans (hW.mono by3.size)) _ _ _ _ ?_
    refine wpAnyH_take (i := 9) (v := ?_) rfl (by kernel_rfl) (by kernel_rfl) (by kernel_rfl) (fun _ _ _ h => h) (Or.inl ⟨by rfl, ?_⟩) (by assumption) ?_
    rotate_left
    · intro W0 hSw; (try dsimp only at hSw); go_simp; all_goals (with_reducible rfl)
    try simp only [Act.put, List.getElem_toArray, List.getElem_cons_succ, List.getElem_cons_zero, List.setIfInBounds_toArray, List.set_cons_zero, List.set_cons_succ]
    refine wpAnyH_take (i := 10) (v := ?_) rfl (by kernel_rfl) (by kernel_rfl) (by kernel_rfl) (fun _ _ _ h => h) (Or.inl ⟨by rfl, ?_⟩) (by assumption) ?_
    rotate_left
    · intro W0 hSw; (try dsimp only at hSw); go_simp; all_goals (with_reducible rfl)
    try simp only [Act.put, List.getElem_toArray, List.getElem_cons_succ, List.getElem_cons_zero, List.setIfInBounds_toArray, List.set_cons_zero, List.set_cons_succ]
    refine wpAnyH_take (i := 11) (v := ?_) rfl (by kernel_rfl) (by kernel_rfl) (by kernel_rfl) (fun _ _ _ h => h) (Or.inl ⟨by rfl, ?_⟩) (by assumption) ?_
    rotate_left
    · intro W0 hSw; (try dsimp only at hSw); go_simp; all_goals (with_reducible rfl)
    try simp only [Act.put, List.getElem_toArray, List.getElem_cons_succ, List.getElem_cons_zero, List.setIfInBounds_toArray, List.set_cons_zero, List.set_cons_succ]
    refine wpAnyH_take (i := 12) (v := ?_) rfl (by kernel_rfl) (by kernel_rfl) (by kernel_rfl) (fun _ _ _ h => h) (Or.inl ⟨by rfl, ?_⟩) (by assumption) ?_
    rotate_left
    · intro W0 hSw; (try dsimp only at hSw); go_simp; all_goals (with_reducible rfl)
    try simp only [Act.put, List.getElem_toArray, List.getElem_cons_succ, List.getElem_cons_zero, List.setIfInBounds_toArray, List.set_cons_zero, List.set_cons_succ]
    refine wpAnyH_take (i := 13) (v := ?_) rfl (by kernel_rfl) (by kernel_rfl) (by kernel_rfl) (fun _ _ _ h => h) (Or.inl ⟨by rfl, ?_⟩) (by assumption) ?_
    rotate_left
    · intro W0 hSw; (try dsimp only at hSw); go_simp; all_goals (with_reducible rfl)
    try simp only [Act.put, List.getElem_toArray, List.getElem_cons_succ, List.getElem_cons_zero, List.setIfInBounds_toArray, List.set_cons_zero, List.set_cons_succ]
    refine wpAnyH_take (i := 16) (v := ?_) rfl (by kernel_rfl) (by kernel_rfl) (by kernel_rfl) (fun _ _ _ h => h) (Or.inl ⟨by rfl, ?_⟩) (by assumption) ?_
    rotate_left
    · intro W0 hSw; (try dsimp only at hSw); go_simp; all_goals (with_reducible rfl)
    try simp only [Act.put, List.getElem_toArray, List.getElem_cons_succ, List.getElem_cons_zero, List.setIfInBounds_toArray, List.set_cons_zero, List.set_cons_succ]
    refine wpAnyH_ready (rs := [14]) (by kernel_rfl) (by simp) ?_
    refine AllReadyH.cons rfl (fun K hK => ?_) AllReadyH.nil
    go_simp
    go_wp2_with (go_at_call 25; (refine (E5.out _ (by assumption)).mono ?_); rintro e wA4 ⟨pA4, cA4, rfl, cv4, bx4, by4, bz4⟩)
    refine hK.out _ _ ?_ (fun hHeld => ?_)
    · assumption
    clear hK K hHeld
    refine held_mono (S' := fun W => Below wA4.heap.size wA4 W) (fun W hW => by4.trans (hW.mono by4.size)) _ _ _ _ ?_
    refine wpAnyH_take (i := 15) (v := ?_) rfl (by kernel_rfl) (by kernel_rfl) (by kernel_rfl) (fun _ _ _ h => h) (Or.inl ⟨by rfl, ?_⟩) (by assumption) ?_
    rotate_left
    · intro W0 hSw; (try dsimp only at hSw); go_simp; all_goals (with_reducible rfl)
    try simp only [Act.put, List.getElem_toArray, List.getElem_cons_succ, List.getElem_cons_zero, List.setIfInBounds_toArray, List.set_cons_zero, List.set_cons_succ]
    refine wpAnyH_ready (rs := [17]) (by kernel_rfl) (by simp) ?_
    refine AllReadyH.cons rfl (fun K hK => ?_) AllReadyH.nil
    go_simp
    go_wp2_with (go_at_call 26; (refine (E6.out _ (by assumption)).mono ?_); rintro e wA5 ⟨pA5, cA5, rfl, cv5, bx5, by5, bz5⟩)
    refine hK.out _ _ ?_ (fun hHeld => ?_)
    · assumption
    clear hK K hHeld
    refine held_mono (S' := fun W => Below wA5.heap.size wA5 W) (fun W hW => by5.trans (hW.mono by5.size)) _ _ _ _ ?_
    refine wpAnyH_take (i := 18) (v := ?_) rfl (by kernel_rfl) (by kernel_rfl) (by kernel_rfl) (fun _ _ _ h => h) (Or.inl ⟨by rfl, ?_⟩) (by assumption) ?_
    rotate_left
    · intro W0 hSw; (try dsimp only at hSw); go_simp; all_goals (with_reducible rfl)
    try simp only [Act.put, List.getElem_toArray, List.getElem_cons_succ, List.getElem_cons_zero, List.setIfInBounds_toArray, List.set_cons_zero, List.set_cons_succ]
    refine wpAnyH_take (i := 19) (v := ?_) rfl (by kernel_rfl) (by kernel_rfl) (by kernel_rfl) (fun _ _ _ h => h) (Or.inl ⟨by rfl, ?_⟩) (by assumption) ?_
    rotate_left
    · intro W0 hSw; (try dsimp only at hSw); go_simp; all_goals (with_reducible rfl)
    try simp only [Act.put, List.getElem_toArray, List.getElem_cons_succ, List.getElem_cons_zero, List.setIfInBounds_toArray, List.set_cons_zero, List.set_cons_succ]
    refine wpAnyH_take (i := 20) (v := ?_) rfl (by kernel_rfl) (by kernel_rfl) (by kernel_rfl) (fun _ _ _ h => h) (Or.inl ⟨by rfl, ?_⟩) (by assumption) ?_
    rotate_left
    · intro W0 hSw; (try dsimp only at hSw); go_simp; all_goals (with_reducible rfl)
    try simp only [Act.put, List.getElem_toArray, List.getElem_cons_succ, List.getElem_cons_zero, List.setIfInBounds_toArray, List.set_cons_zero, List.set_cons_succ]
    refine wpAnyH_take (i := 21) (v := ?_) rfl (by kernel_rfl) (by kernel_rfl) (by kernel_rfl) (fun _ _ _ h => h) (Or.inl ⟨by rfl, ?_⟩) (by assumption) ?_
    rotate_left
    · intro W0 hSw; (try dsimp only at hSw); go_simp; all_goals (with_reducible rfl)
    try simp only [Act.put, List.getElem_toArray, List.getElem_cons_succ, List.getElem_cons_zero, List.setIfInBounds_toArray, List.set_cons_zero, List.set_cons_succ]
    refine wpAnyH_done (by kernel_rfl) ?_ _
    go_wp2_with fail
    go_meet
    exact ⟨rfl, Lib.hid bx5⟩
  case rest =>
  obtain ⟨rfl, HD⟩ := hcut
  obtain ⟨XS, hXS⟩ : ∃ XS : ByteArray, XS = ⟨X'.toArray⟩ := ⟨_, rfl⟩
  obtain ⟨RS, hRS⟩ : ∃ RS : ByteArray, RS = ⟨R'.toArray⟩ := ⟨_, rfl⟩
  have cv1 := bs_string (HBX6.out.keep HD.out) nX cx HnX.out.symm
  have cv2 := bs_string (HBY6.out.keep HD.out) nX cy HnX.out.symm
  have cv3 := bs_string (HBR6.out.keep HD.out) nR cr HnR.out.symm
  have cv4 := bs_string (HBQ6.out.keep HD.out) nR cq HnR.out.symm
  rw [← hXS] at cv1 cv2
  rw [← hRS] at cv3 cv4
  clear hXS hRS
  go_wp2_with fail
  go_ret
  exact ⟨rfl, HB6.out.trans (HD.out.mono HB6.out.size)⟩

end Go.Proofs.YteojijocoamohaaDoor.replyAll
