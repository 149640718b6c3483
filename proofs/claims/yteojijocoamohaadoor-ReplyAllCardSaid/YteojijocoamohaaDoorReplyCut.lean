/-
  Layer 5's parts of Take: the cut at a line's end, a number that is told, what of a bulk lies behind its line.
-/
import Derived.Test.YteojijocoamohaaDoorBytesIdx
import Derived.Test.YteojijocoamohaaDoorNumParse
import Derived.Lib.IndexMore
namespace Go.Proofs.YteojijocoamohaaDoor.ReplyM
open Go.RowKit Kit BytesIn ReplyMath ReplyT NumMath NumL BytesA
set_option linter.unusedVariables false
set_option maxRecDepth 100000

theorem below_drewN {B : Nat} {a w : World} (h : Below B a w) (q : Nat) : Below B a (w.drewN q) := h.trans ⟨rfl, rfl, rfl, Nat.le_refl _, fun _ _ => rfl⟩
theorem bs_in {w : World} {p : Option Addr} {l : List UInt8} {n : Nat} (h : Bs w p l) (hn : l.length = n) : Lib.BytesIn w p n (Lib.numsL l) := by
  subst hn
  intro h0
  obtain ⟨b, off, hp, -, hc⟩ := h h0
  refine ⟨b, off, hp, fun i hi => ?_⟩
  rw [hc i hi, List.getD_eq_getElem?_getD, List.getElem?_eq_getElem (by rw [Lib.numsL_length]; exact hi)]
  simp [Lib.numsL]
/-- Where the first end stands. -/
def place : Option (List UInt8 × List UInt8) → Int
  | none => -1
  | some p => p.1.length
theorem index_cut : ∀ l : List UInt8, Lib.index l [13, 10] = place (cutE l)
  | [] => rfl
  | c :: r => by
    have ih := index_cut r
    rw [Lib.index, cutE]
    by_cases h : c = 13 ∧ r.head? = some 10
    · rw [if_pos h]
      obtain ⟨rfl, h⟩ := h
      match r, h with
      | d :: r', h =>
        simp at h
        subst h
        rfl
    · rw [if_neg h]
      have hp : ([13, 10] : List UInt8).isPrefixOf (c :: r) = false := by
        cases hq : ([13, 10] : List UInt8).isPrefixOf (c :: r) with
        | false => rfl
        | true =>
          refine absurd ?_ h
          match r, hq with
          | [], hq => simp [List.isPrefixOf] at hq
          | d :: r', hq =>
            simp [List.isPrefixOf] at hq
            exact ⟨hq.1.symm, by simp [hq.2]⟩
      rw [hp, ih]
      cases cutE r with
      | none => rfl
      | some q =>
        show (if (place (some q) == -1) = true then -1 else place (some q) + 1) = _
        have : ((q.1.length : Int) == -1) = false := by rw [beq_eq_false_iff_ne]; omega
        simp [place, this]
/-- bytes.Cut at a line's end. -/
theorem cut_any (p : Option Addr) (l : List UInt8) (n c : Nat) (q : Option Addr) (d : Nat) (w : World) (hn : l.length = n) (hb : Bs w p l) (hc : n ≤ c) (hz : n ≤ 1048576) (hnil : p = none → c = 0) (hq : Bs w q [13, 10]) (hu : Ut w) :
    Calls Tryd.prog 45 #[.slice p n c, .slice q 2 d] w fun e w' => e = .returned (Lib.cutV p n c 2 (place (cutE l))) ∧ Below w.heap.size w w' := by
  obtain ⟨m, hm⟩ := hu.mx
  refine (Tryd.bytes_Cut_all p q n c 2 d (Lib.numsL l) (Lib.numsL [13, 10]) m w (by rw [Lib.numsL_length, hn]) rfl (Lib.numsL_range _) (Lib.numsL_range _) (bs_in hb hn) (bs_in hq rfl) hnil hc (by omega) (by decide) hm).mono ?_
  rintro e w' ⟨he, k, rfl⟩
  rw [Lib.bytesOf_numsL, Lib.bytesOf_numsL, index_cut] at he
  exact ⟨he, below_drewN (Below.refl _ _) k⟩
theorem prefix_any (p : Option Addr) (l : List UInt8) (n c : Nat) (q : Option Addr) (d : Nat) (w : World) (hn : l.length = n) (hb : Bs w p l) (hc : n ≤ c) (hq : Bs w q [13, 10]) :
    Calls Tryd.prog 54 #[.slice p n c, .slice q 2 d] w fun e w' => e = .returned (.bool (decide (l.take 2 = [13, 10]))) ∧ w' = w := by
  refine (Tryd.bytes_HasPrefix_all p q n c 2 d (Lib.numsL l) (Lib.numsL [13, 10]) w (by rw [Lib.numsL_length, hn]) rfl hc (bs_in hb hn) (bs_in hq rfl)).mono ?_
  rintro e w' ⟨he, hw⟩
  rw [Lib.bytesOf_numsL, Lib.bytesOf_numsL] at he
  refine ⟨?_, hw⟩
  rw [he]
  congr 2
  rw [Bool.eq_iff_iff, decide_eq_true_eq]
  unfold Lib.hasPrefix
  rw [List.isPrefixOf_iff_prefix, List.prefix_iff_eq_take]
  exact ⟨fun h => h.symm, fun h => h.symm⟩
/-- bytes.Clone. -/
theorem clone_any (p : Option Addr) (l : List UInt8) (n c : Nat) (w : World) (hn : l.length = n) (hb : Bs w p l) (hz : n ≤ 1048576) :
    Calls Tryd.prog 30 #[.slice p n c] w fun e w' => ∃ v, e = .returned v ∧ Ans w.heap.size w' v l ∧ Below w.heap.size w w' := by
  have hown : ∀ (v : Value) (W : World), W.ownsRow w.heap.size 5 1 v n ((Lib.numsL l).map (Value.int .u8)) → Ans w.heap.size W v l := fun v W h => by
    subst hn
    refine Own.ans (base := w.heap.size) (l := l) ?_
    have : (Lib.numsL l).map (Value.int .u8) = bv l := by simp [Lib.numsL, bv]
    rw [this] at h
    exact h
  rcases p with _ | ad
  · refine (Tryd.bytes_Clone_nil n c w).mono ?_
    rintro e w' ⟨he, rfl⟩
    have h0 : l = [] := by
      rcases Nat.eq_zero_or_pos l.length with h' | h'
      · exact List.eq_nil_of_length_eq_zero h'
      · obtain ⟨b, off, e, -⟩ := hb h'
        cases e
    subst h0
    exact ⟨_, he, ans_none _ _, Below.refl _ _⟩
  · refine (Tryd.bytes_Clone_at ad n c (Lib.numsL l) w (by rw [Lib.numsL_length, hn]) (by omega) (fun i hi => ?_)).mono ?_
    · obtain ⟨b, off, e, hc⟩ := bs_in hb hn (by omega)
      injection e with e
      subst e
      rw [Addr.add_lit]
      exact hc i hi
    · rintro e w' ⟨v, he, ho, -, hb2⟩
      exact ⟨v, he, hown v w' ho, hb2⟩

/-- How many follow: the number that is told, and whether it is one. -/
def cV (l : List UInt8) : Int := if l = [45, 49] then 0 else pV l
def cB (l : List UInt8) : Bool := if l = [45, 49] then true else (pB l && decide (0 ≤ pV l))
theorem eq_minus (s : ByteArray) : (s.toList == [45, 49]) = decide (s.data.toList = [45, 49]) := by
  rw [ByteArray.toList_eq, Bool.eq_iff_iff, beq_iff_eq, decide_eq_true_eq]
set_option maxHeartbeats 1000000 in
theorem count_any (s : ByteArray) (w : World) (hz : s.size ≤ 1048576) (hg : Gd w) :
    Calls Tryd.prog 49 #[.string s] w fun e w' => e = .returned (.tuple #[.int .i64 (cV s.data.toList), .bool (cB s.data.toList)]) ∧ Below w.heap.size w w' := by
  have hE := eq_minus s
  by_cases h : s.data.toList = [45, 49]
  · have h1 : (s.toList == [45, 49]) = true := by rw [hE]; exact decide_eq_true h
    have HV := Lib.hid (show (0 : Int) = cV s.data.toList by unfold cV; rw [if_pos h])
    have HB := Lib.hid (show true = cB s.data.toList by unfold cB; rw [if_pos h])
    clear hE h hg
    go_enter Tryd.func49, Tryd.ntmps49
    go_wp2_with fail
    go_ret2
    exact ⟨ret_ib HV.out HB.out, Below.refl _ _⟩
  · have h1 : (s.toList == [45, 49]) = false := by rw [hE]; exact decide_eq_false h
    have HV := Lib.hid (show pV s.data.toList = cV s.data.toList by unfold cV; rw [if_neg h])
    have HB := Lib.hid (show (pB s.data.toList && decide (0 ≤ pV s.data.toList)) = cB s.data.toList by unfold cB; rw [if_neg h])
    have C := Lib.hid (parse_any s (by omega) w hg)
    clear hE h hg
    obtain ⟨v, hv⟩ : ∃ v, v = pV s.data.toList := ⟨_, rfl⟩
    obtain ⟨b, hb⟩ : ∃ b, b = pB s.data.toList := ⟨_, rfl⟩
    rw [← hv] at C HV HB
    rw [← hb] at C HB
    clear hv hb
    cases b with
    | false =>
      go_enter Tryd.func49, Tryd.ntmps49
      go_wp2_with fail
      refine C.out.mono ?_
      rintro e w1 ⟨rfl, hb1⟩
      go_wp2_with fail
      go_ret2
      exact ⟨ret_ib HV.out HB.out, hb1⟩
    | true =>
      go_enter Tryd.func49, Tryd.ntmps49
      go_wp2_with fail
      refine C.out.mono ?_
      rintro e w1 ⟨rfl, hb1⟩
      go_wp2_with fail
      go_ret2
      exact ⟨ret_ib HV.out HB.out, hb1⟩

end Go.Proofs.YteojijocoamohaaDoor.ReplyM
