/-
  Layer 5's parts of Take: reply.body, what of a bulk lies behind its line.
-/
import Derived.Test.YteojijocoamohaaDoorReplyCut
namespace Go.Proofs.YteojijocoamohaaDoor.ReplyM
open Go.RowKit Kit BytesIn ReplyMath ReplyT NumMath NumL BytesA
set_option linter.unusedVariables false
set_option maxRecDepth 100000

theorem parse_minus : parse [45, 49] = some (-1) := by rw [← itoa_minus1]; exact parse_itoa (-1) (by decide) (by decide)
theorem minus_of {l : List UInt8} (h : parse l = some (-1)) : l = [45, 49] := by
  rw [← itoa_minus1]
  exact (parse_some h).1.symm
theorem pV_of {l : List UInt8} {v : Int} (h : parse l = some v) : pV l = v ∧ pB l = true := by simp [pV, pB, h]
theorem pB_no {l : List UInt8} (h : parse l = none) : pB l = false := by simp [pB, h]
/-- What a bulk's line asks of the rest. -/
def bulkIs (S l : List UInt8) : Option (List UInt8 × Nat) := (parse S).bind fun n => bulkOf n l
def bX (n : Nat) : Option (List UInt8 × Nat) → Int
  | none => 0
  | some p => (n : Int) - (p.1.length : Int)
def bB : Option (List UInt8 × Nat) → Bool
  | none => false
  | some _ => true
def BodyP (n : Nat) (o : Option (List UInt8 × Nat)) (w : World) (e : Ending) (w' : World) : Prop := e = .returned (.tuple #[.int .i64 (bX n o), .bool (bB o)]) ∧ Below w.heap.size w w'
theorem body_no {n : Nat} {o : Option (List UInt8 × Nat)} {w w' : World} (h : o = none) (hb : Below w.heap.size w w') : BodyP n o w (.returned (.tuple #[.int .i64 0, .bool false])) w' := by
  subst h
  exact ⟨rfl, hb⟩
theorem body_yes {n : Nat} {o : Option (List UInt8 × Nat)} {w w' : World} (x : Int) (t : List UInt8) (m : Nat) (h : o = some (t, m)) (hx : x + (t.length : Int) = (n : Int)) (hb : Below w.heap.size w w') : BodyP n o w (.returned (.tuple #[.int .i64 x, .bool true])) w' := by
  subst h
  refine ⟨?_, hb⟩
  show Ending.returned (.tuple #[.int .i64 x, .bool true]) = .returned (.tuple #[.int .i64 ((n : Int) - (t.length : Int)), .bool true])
  rw [show (n : Int) - (t.length : Int) = x by omega]
theorem bulk_minus' (l : List UInt8) : bulkIs [45, 49] l = some (l, 0) := by
  unfold bulkIs
  rw [parse_minus]
  show bulkOf (-1) l = _
  unfold bulkOf
  rw [if_pos rfl]
theorem bulk_neg {S l : List UInt8} (hS : S ≠ [45, 49]) (h : cB S = false) : bulkIs S l = none := by
  unfold bulkIs
  cases hp : parse S with
  | none => rfl
  | some v =>
    unfold cB at h
    rw [if_neg hS, (pV_of hp).1, (pV_of hp).2, Bool.true_and, decide_eq_false_iff_not] at h
    show bulkOf v l = none
    unfold bulkOf
    rw [if_neg (by rintro rfl; exact hS (minus_of hp)), if_neg (by omega)]
theorem bulk_pos {S : List UInt8} (hS : S ≠ [45, 49]) (h : cB S = true) : ∃ k : Nat, cV S = k ∧ k ≤ 9223372036854775807 ∧ ∀ l, bulkIs S l = if (l.drop k).take 2 = [13, 10] then some (l.drop (k + 2), 0) else none := by
  unfold cB at h
  rw [if_neg hS] at h
  cases hp : parse S with
  | none => rw [pB_no hp] at h; cases h
  | some v =>
    rw [(pV_of hp).1, (pV_of hp).2, Bool.true_and, decide_eq_true_eq] at h
    have hv := (parse_some hp).2
    refine ⟨v.toNat, ?_, by omega, fun l => ?_⟩
    · unfold cV
      rw [if_neg hS, (pV_of hp).1]
      omega
    · unfold bulkIs
      rw [hp]
      show bulkOf v l = _
      unfold bulkOf
      rw [if_neg (by omega)]
      by_cases hq : (l.drop v.toNat).take 2 = [13, 10]
      · rw [if_pos ⟨h, hq⟩, if_pos hq]
      · rw [if_neg (fun hh => hq hh.2), if_neg hq]

set_option maxHeartbeats 2000000 in
theorem body_any (S : ByteArray) (q : Option Addr) (l : List UInt8) (n c : Nat) (w : World) (hz : S.size ≤ 1048576) (hn : l.length = n) (hb : Bs w q l) (hc : n ≤ c) (hcm : c ≤ 9223372036854775807) (hz2 : n ≤ 1048576) (hg : Gd w) :
    Calls Tryd.prog 48 #[.string S, .slice q n c] w (BodyP n (bulkIs S.data.toList l) w) := by
  have C := Lib.hid (count_any S w hz hg)
  have hE := eq_minus S
  by_cases h : S.data.toList = [45, 49]
  · have h1 : (S.toList == [45, 49]) = true := by rw [hE]; exact decide_eq_true h
    rw [show cV S.data.toList = 0 by unfold cV; rw [if_pos h], show cB S.data.toList = true by unfold cB; rw [if_pos h]] at C
    have HX := Lib.hid (fun W hbw => body_yes (n := n) (o := bulkIs S.data.toList l) (w := w) (w' := W) 0 l 0 (by rw [h]; exact bulk_minus' l) (by rw [hn]; omega) hbw)
    clear hE h hg hb hn
    go_enter Tryd.func48, Tryd.ntmps48
    go_wp2_with fail
    refine C.out.mono ?_
    rintro e w1 ⟨rfl, hb1⟩
    go_wp2_with fail
    go_ret2
    exact HX.out _ hb1
  · have h1 : (S.toList == [45, 49]) = false := by rw [hE]; exact decide_eq_false h
    cases hcb : cB S.data.toList with
    | false =>
      rw [hcb] at C
      have HX := Lib.hid (fun W hbw => body_no (n := n) (o := bulkIs S.data.toList l) (w := w) (w' := W) (bulk_neg h hcb) hbw)
      clear hE h hg hb hn hcb
      go_enter Tryd.func48, Tryd.ntmps48
      go_wp2_with fail
      refine C.out.mono ?_
      rintro e w1 ⟨rfl, hb1⟩
      go_wp2_with fail
      go_ret2
      exact HX.out _ hb1
    | true =>
      obtain ⟨k, hk, hkm, hB⟩ := bulk_pos h hcb
      rw [hcb, hk] at C
      rcases Nat.lt_or_ge n k with hlt | hge
      · have HX := Lib.hid (fun W hbw => body_no (n := n) (o := bulkIs S.data.toList l) (w := w) (w' := W) (by
          rw [hB, if_neg]
          rw [List.drop_eq_nil_of_le (by omega)]
          simp) hbw)
        have d1 : decide ((n : Int) < (k : Int)) = true := decide_eq_true (by omega)
        clear hE h hg hb hn hcb hB hk
        go_enter Tryd.func48, Tryd.ntmps48
        go_wp2_with fail
        refine C.out.mono ?_
        rintro e w1 ⟨rfl, hb1⟩
        go_wp2_with fail
        go_ret2
        exact HX.out _ hb1
      · have d1 : decide ((n : Int) < (k : Int)) = false := decide_eq_false (by omega)
        have q1 := fun W => sl_l q n c k hge W
        have hBs := fun W (hbw : Below w.heap.size w W) => (show Bs W (ReplyT.partAt q c k) (l.drop k) by
          have h1 := partAt_bs (c := c) (hb.keep hbw) (by rw [hn]; exact hc) k n (by rw [hn]; exact Nat.le_refl _)
          rwa [List.take_of_length_le (by rw [List.length_drop, hn]; omega)] at h1)
        have CP := Lib.hid (fun W (hbw : Below w.heap.size w W) => prefix_any (ReplyT.partAt q c k) (l.drop k) (n - k) (c - k) (some ⟨W.heap.size, 0, none⟩) 2 (W.alloc (.cells (bv [13, 10]).toArray 5 (2, 3)))
          (by rw [List.length_drop, hn]) ((hBs W hbw).keep (below1 _ _)) (by omega) (lit_bs W [13, 10] _ _))
        have hcv := run_const
        by_cases hp : (l.drop k).take 2 = [13, 10]
        · have HX := Lib.hid (fun W hbw => body_yes (n := n) (o := bulkIs S.data.toList l) (w := w) (w' := W) ((k : Int) + 2) (l.drop (k + 2)) 0 (by rw [hB, if_pos hp]) (by
            have := congrArg List.length hp
            rw [List.length_take, List.length_drop] at this
            have h2 : ([13, 10] : List UInt8).length = 2 := rfl
            rw [List.length_drop]
            omega) hbw)
          rw [decide_eq_true hp] at CP
          clear hE h hg hb hn hcb hB hk hBs hp
          go_enter Tryd.func48, Tryd.ntmps48
          go_wp2_with fail
          refine C.out.mono ?_
          rintro e w1 ⟨rfl, hb1⟩
          have hcv1 := hcv w1
          clear hcv
          go_wp2_with fail
          refine (CP.out w1 hb1).mono ?_
          rintro e w2 ⟨rfl, rfl⟩
          go_wp2_with fail
          go_ret2
          exact HX.out _ (hb1.alloc hb1.size _)
        · have HX := Lib.hid (fun W hbw => body_no (n := n) (o := bulkIs S.data.toList l) (w := w) (w' := W) (by rw [hB, if_neg hp]) hbw)
          rw [decide_eq_false hp] at CP
          clear hE h hg hb hn hcb hB hk hBs hp
          go_enter Tryd.func48, Tryd.ntmps48
          go_wp2_with fail
          refine C.out.mono ?_
          rintro e w1 ⟨rfl, hb1⟩
          have hcv1 := hcv w1
          clear hcv
          go_wp2_with fail
          refine (CP.out w1 hb1).mono ?_
          rintro e w2 ⟨rfl, rfl⟩
          go_wp2_with fail
          go_ret2
          exact HX.out _ (hb1.alloc hb1.size _)

end Go.Proofs.YteojijocoamohaaDoor.ReplyM
