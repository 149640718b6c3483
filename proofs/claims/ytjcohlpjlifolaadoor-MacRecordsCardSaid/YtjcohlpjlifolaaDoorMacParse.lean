/-
  What mac.parse comes to: a text as a record.
-/
import Derived.Test.YtjcohlpjlifolaaDoorMacSplit
import Derived.Test.YtjcohlpjlifolaaDoorMacSum
namespace Go.Proofs.YtjcohlpjlifolaaDoor.MacT
open Go.RowKit Kit ShaMath ShaT MacM HexMath HexW NumL NumMath
set_option linter.unusedVariables false
set_option maxRecDepth 100000

theorem z3_info : (Tryd.prog.info? 52).map (·.size) = some 3 := by kernel_rfl
theorem build_z3 (w : World) : (Instr.build 52 #[]).run Tryd.prog w = .ok (.agg #[.int .i64 0, .slice none 0 0, .slice none 0 0]) w := run_build w 52 _ _ (by kernel_rfl)
theorem results_cell_slot {P : Program} {fn : Func} {p q : Tmp} {ty : TypeId} (h : fn.results = #[.cell p ty, .tmp q]) (tmps : Array Value) (w : World) (g : Nat) (t : TypeId) (cs : Array Value) (fr : Nat × Nat) (d : TypeDesc) (v : Value)
    (hp : tmps.getD p undef = .pointer (some ⟨g, 0, none⟩)) (hg : w.heap[g]? = some (.cells cs t fr))
    (hu : P.underlying ty = some d) (hd : (match d with | .struct _ | .array _ _ => true | _ => false) = true) (hi : (P.info? ty).map (·.size) = some cs.size) (hq : tmps.getD q undef = v) :
    (results fn tmps).run P w = .ok (.tuple #[.agg cs, v]) w := by
  have hp' : tmps[p]?.getD undef = .pointer (some ⟨g, 0, none⟩) := by simpa using hp
  have hq' : tmps[q]?.getD undef = v := by simpa using hq
  simp [results, h, hp', hq', asAddr, run_loadVar_row w g t ty cs fr d hg hu hd hi]

/-- What mac.parse answers. -/
def ParseB (R : Option (Int × List UInt8 × List UInt8)) (w : World) (e : Ending) (w' : World) : Prop :=
  match R with
  | none => e = .returned (.tuple #[.agg #[.int .i64 0, .slice none 0 0, .slice none 0 0], .bool false]) ∧ Below w.heap.size w w'
  | some (r, salt, d) => ∃ p1 c1 p2 c2, e = .returned (.tuple #[.agg #[.int .i64 r, .slice p1 salt.length c1, .slice p2 32 c2], .bool true]) ∧ Bs w' p1 salt ∧ salt.length ≤ c1 ∧ c1 ≤ 9223372036854775807 ∧ (p1 = none → c1 = 0) ∧ Bs w' p2 d ∧ 1 ≤ r ∧ r ≤ 64 ∧ salt.length ≤ 32 ∧ d.length = 32 ∧ Below w.heap.size w w'
theorem parseB_no {R : Option (Int × List UInt8 × List UInt8)} {w w' : World} (h : R = none) (hb : Below w.heap.size w w') : ParseB R w (.returned (.tuple #[.agg #[.int .i64 0, .slice none 0 0, .slice none 0 0], .bool false])) w' := by
  subst h
  exact ⟨rfl, hb⟩

theorem parseB_yes {R : Option (Int × List UInt8 × List UInt8)} {r rv : Int} {salt d : List UInt8} {n1 k1 k2 : Nat} {p1 p2 : Option Addr} {w w' : World} (h : R = some (r, salt, d)) (hr : rv = r) (hn : salt.length = n1) (h1 : Bs w' p1 salt) (h2 : n1 ≤ k1) (h3 : k1 ≤ 9223372036854775807) (h4 : p1 = none → k1 = 0) (h5 : Bs w' p2 d) (h6 : 1 ≤ r ∧ r ≤ 64) (h7 : n1 ≤ 32) (h8 : d.length = 32) (hb : Below w.heap.size w w') :
    ParseB R w (.returned (.tuple #[.agg #[.int .i64 rv, .slice p1 n1 k1, .slice p2 32 k2], .bool true])) w' := by
  subst h hr hn
  exact ⟨p1, k1, p2, k2, rfl, h1, h2, h3, h4, h5, h6.1, h6.2, h7, h8, hb⟩
theorem bs_set_ne {w : World} {p : Option Addr} {l : List UInt8} {g : Nat} {t : TypeId} (h : Bs w p l) (hT : w.heap[g]? = some (.cells #[.int .i64 0, .slice none 0 0, .slice none 0 0] t (0, 0))) (cs : Array Value) : Bs (w.setRow g cs) p l := by
  intro h0
  obtain ⟨b, off, rfl, hl, hc⟩ := h h0
  have hne : b ≠ g := by
    rintro rfl
    have h1 := hc 0 h0
    rw [cell_of_row w b _ _ t _ hT] at h1
    match off, h1 with
    | 0, h1 => simp at h1
    | 1, h1 => simp at h1
    | 2, h1 => simp at h1
    | n + 3, h1 => simp at h1
  refine ⟨b, off, rfl, by rw [setRow_size]; exact hl, fun j hj => ?_⟩
  rw [cell_setRow_other w g cs ⟨b, off + j, none⟩ hne]
  exact hc j hj

set_option maxHeartbeats 1000000 in
theorem parse_other (s : ByteArray) (h : three s.data.toList = none) (w : World) (hz : s.size ≤ 1048576) (hm : Mx w) :
    Calls Tryd.prog 34 #[.string s] w (ParseB none w) := by
  have hbz := build_z3
  have HM := Lib.hid hm
  have H := Lib.hid h
  have HC := Lib.hid (show (Tryd.prog.info? 52).map (·.size) = some (#[.int .i64 0, .slice none 0 0, .slice none 0 0] : Array Value).size from z3_info)
  have HO := Lib.hid (show (#[.int .i64 0, .slice none 0 0, .slice none 0 0] : Array Value).all (·.oneCell') = true by simp [Value.oneCell'])
  clear hm h
  go_enter Tryd.func34, Tryd.ntmps34
  go_wp2_with fail
  have hb0 := below1 w (.cells #[.int .i64 0, .slice none 0 0, .slice none 0 0] 52)
  refine (split_other s H.out _ hz (HM.out.keep hb0)).mono ?_
  rintro e w1 ⟨p, n, c, rfl, hn, hb1⟩
  have HT : Hid (w1.heap[w.heap.size]? = some (.cells #[.int .i64 0, .slice none 0 0, .slice none 0 0] 52 (0, 0))) := Lib.hid (by rw [hb1.block w.heap.size (by simp)]; exact heap_alloc_last w _)
  have hbw := hb0.trans (hb1.mono hb0.size)
  have hd : ((n : Int) != 3) = true := by simp; omega
  clear hb0 hb1
  go_wp2_with (with_reducible refine wpList_store_row rfl 52 (.tmp 2) (.tmp 16) rfl w.heap.size #[.int .i64 0, .slice none 0 0, .slice none 0 0] rfl rfl 52 _ HT.out HC.out rfl HO.out ?_)
  exact bodyPost_ret (results_cell_slot rfl _ _ w.heap.size 52 #[.int .i64 0, .slice none 0 0, .slice none 0 0] (0, 0) _ (.bool false) rfl (setRow_heap w1 w.heap.size _ _ _ _ HT.out) Tryd.underlying52 rfl HC.out rfl) rfl (parseB_no rfl (below_setRow hbw (Nat.le_refl _) _))

set_option maxHeartbeats 2000000 in
theorem parse_three (s : ByteArray) (a b c : List UInt8) (h : three s.data.toList = some (a, b, c)) (w : World) (hz : s.size ≤ 1048576) (hm : Mx w) (hg : NumL.Gd w) :
    Calls Tryd.prog 34 #[.string s] w (ParseB (recOf3 a b c) w) := by
  have hbz := build_z3
  have HM := Lib.hid hm
  have HG := Lib.hid hg
  have H := Lib.hid h
  have HC := Lib.hid (show (Tryd.prog.info? 52).map (·.size) = some (#[.int .i64 0, .slice none 0 0, .slice none 0 0] : Array Value).size from z3_info)
  have HO := Lib.hid (show (#[.int .i64 0, .slice none 0 0, .slice none 0 0] : Array Value).all (·.oneCell') = true by simp [Value.oneCell'])
  have hl := three_size h
  have hs : s.data.toList.length = s.size := by simp
  have hla : a.length ≤ 1048576 := by omega
  have hlb : b.length ≤ 1048576 := by omega
  have hlc : c.length ≤ 1048576 := by omega
  clear hm h hg hl hs
  go_enter Tryd.func34, Tryd.ntmps34
  go_wp2_with fail
  have hb0 := below1 w (.cells #[.int .i64 0, .slice none 0 0, .slice none 0 0] 52)
  refine (split_three s a b c H.out _ hz (HM.out.keep hb0)).mono ?_
  rintro e w1 ⟨g, rfl, c0, c1, c2, hgl, hb1⟩
  have HT1 : Hid (w1.heap[w.heap.size]? = some (.cells #[.int .i64 0, .slice none 0 0, .slice none 0 0] 52 (0, 0))) := Lib.hid (by rw [hb1.block w.heap.size (by simp)]; exact heap_alloc_last w _)
  have hw1 : w.heap.size < w1.heap.size := by have := hb1.size; simp at this; omega
  have HB1 := Lib.hid (hb0.trans (hb1.mono hb0.size))
  have K1 := Lib.hid c1
  have K2 := Lib.hid c2
  clear hb0 hb1 c1 c2
  go_wp2_with fail
  refine (parse_b a _ hla (HG.out.keep HB1.out)).mono ?_
  rintro e w2 ⟨rfl, hb2⟩
  have HT2 := Lib.hid ((hb2.block w.heap.size hw1).trans HT1.out)
  have HB2 := Lib.hid (HB1.out.trans (hb2.mono HB1.out.size))
  have c1 := (hb2.cell (p := ⟨g, 1, none⟩) hgl).trans K1.out
  have J2 := Lib.hid ((hb2.cell (p := ⟨g, 2, none⟩) hgl).trans K2.out)
  have hgl2 : g < w2.heap.size := Nat.lt_of_lt_of_le hgl hb2.size
  have hw2 : w.heap.size < w2.heap.size := Nat.lt_of_lt_of_le hw1 hb2.size
  clear hb2 HT1 HB1 K1 K2 c0
  go_wp2_with fail
  refine (unhex_b b _ hlb).mono ?_
  rintro e w3 ⟨p1, n1, k1, rfl, hf1, hb3⟩
  have HT3 := Lib.hid ((hb3.block w.heap.size hw2).trans HT2.out)
  have HB3 := Lib.hid (HB2.out.trans (hb3.mono HB2.out.size))
  have c2 := (hb3.cell (p := ⟨g, 2, none⟩) hgl2).trans J2.out
  have hw3 : w.heap.size < w3.heap.size := Nat.lt_of_lt_of_le hw2 hb3.size
  have F1 := Lib.hid hf1
  clear hb3 HT2 HB2 J2 c1 hf1
  go_wp2_with fail
  refine (unhex_b c _ hlc).mono ?_
  rintro e w4 ⟨p2, n2, k2, rfl, hf2, hb4⟩
  have HT4 := Lib.hid ((hb4.block w.heap.size hw3).trans HT3.out)
  have HB4 := Lib.hid (HB3.out.trans (hb4.mono HB3.out.size))
  have F2 := Lib.hid hf2
  have X4 := Lib.hid hb4
  clear hb4 HT3 HB3 c2 hf2
  rcases hA : parse a with _ | r
  · have HN := Lib.hid (recOf3_a (b := b) (c := c) hA)
    have hp : pB a = false := by unfold pB; rw [hA]; rfl
    clear hA
    go_wp2_with (first | (go_at_call 29; (first | (with_reducible refine (fit_no _ _ HFN.out).mono ?_) | (with_reducible refine (fit_yes _ _ HFY.out.1 HFY.out.2).mono ?_)); rintro e w' ⟨rfl, rfl⟩) | with_reducible refine wpList_store_row rfl 52 (.tmp 2) (.tmp 63) rfl w.heap.size #[.int .i64 0, .slice none 0 0, .slice none 0 0] rfl rfl 52 _ HT4.out HC.out rfl HO.out ?_)
    exact bodyPost_ret (results_cell_slot rfl _ _ w.heap.size 52 #[.int .i64 0, .slice none 0 0, .slice none 0 0] (0, 0) _ (.bool false) rfl (setRow_heap w4 w.heap.size _ _ _ _ HT4.out) Tryd.underlying52 rfl HC.out rfl) rfl (parseB_no HN.out (below_setRow HB4.out (Nat.le_refl _) _))
  have hp : pB a = true := by unfold pB; rw [hA]; rfl
  have HV := Lib.hid (show pV a = r by unfold pV; rw [hA]; rfl)
  have HA := Lib.hid hA
  clear hA
  rcases hB : unhexL b with _ | salt
  · have HN := Lib.hid (recOf3_b (a := a) (c := c) hB)
    have hp1 : (unhexL b).isSome = false := by rw [hB]; rfl
    clear hB
    go_wp2_with (first | (go_at_call 29; (first | (with_reducible refine (fit_no _ _ HFN.out).mono ?_) | (with_reducible refine (fit_yes _ _ HFY.out.1 HFY.out.2).mono ?_)); rintro e w' ⟨rfl, rfl⟩) | with_reducible refine wpList_store_row rfl 52 (.tmp 2) (.tmp 63) rfl w.heap.size #[.int .i64 0, .slice none 0 0, .slice none 0 0] rfl rfl 52 _ HT4.out HC.out rfl HO.out ?_)
    exact bodyPost_ret (results_cell_slot rfl _ _ w.heap.size 52 #[.int .i64 0, .slice none 0 0, .slice none 0 0] (0, 0) _ (.bool false) rfl (setRow_heap w4 w.heap.size _ _ _ _ HT4.out) Tryd.underlying52 rfl HC.out rfl) rfl (parseB_no HN.out (below_setRow HB4.out (Nat.le_refl _) _))
  have hp1 : (unhexL b).isSome = true := by rw [hB]; rfl
  obtain ⟨hn1, hbs1, hk1, hk1m, hnil1⟩ := F1.out salt hB
  have HBb := Lib.hid hB
  clear hB
  rcases hD : unhexL c with _ | d
  · have HN := Lib.hid (recOf3_c (a := a) (b := b) hD)
    have hp2 : (unhexL c).isSome = false := by rw [hD]; rfl
    have HN1 := Lib.hid hn1
    clear hD hn1
    go_wp2_with (first | (go_at_call 29; (first | (with_reducible refine (fit_no _ _ HFN.out).mono ?_) | (with_reducible refine (fit_yes _ _ HFY.out.1 HFY.out.2).mono ?_)); rintro e w' ⟨rfl, rfl⟩) | with_reducible refine wpList_store_row rfl 52 (.tmp 2) (.tmp 63) rfl w.heap.size #[.int .i64 0, .slice none 0 0, .slice none 0 0] rfl rfl 52 _ HT4.out HC.out rfl HO.out ?_)
    exact bodyPost_ret (results_cell_slot rfl _ _ w.heap.size 52 #[.int .i64 0, .slice none 0 0, .slice none 0 0] (0, 0) _ (.bool false) rfl (setRow_heap w4 w.heap.size _ _ _ _ HT4.out) Tryd.underlying52 rfl HC.out rfl) rfl (parseB_no HN.out (below_setRow HB4.out (Nat.le_refl _) _))
  have hp2 : (unhexL c).isSome = true := by rw [hD]; rfl
  obtain ⟨hn2, hbs2, hk2, hk2m, hnil2⟩ := F2.out d hD
  have HDd := Lib.hid hD
  have HN1 := Lib.hid hn1
  have HN2 := Lib.hid hn2
  clear hD hn1 hn2 F1 F2
  have HBS1 := Lib.hid (hbs1.keep X4.out)
  have HBS2 := Lib.hid hbs2
  clear hbs1 hbs2
  by_cases hfit : 1 ≤ pV a ∧ pV a ≤ 64
  · have HFY := Lib.hid hfit
    have hr1 : 1 ≤ r ∧ r ≤ 64 := by rw [← HV.out]; exact hfit
    clear hfit
    by_cases h32 : n1 ≤ 32
    · have d1 : decide (32 < (n1 : Int)) = false := decide_eq_false (by omega)
      by_cases hd32 : n2 = 32
      · subst hd32
        have HN := Lib.hid (recOf3_some HA.out HBb.out HDd.out ⟨hr1.1, hr1.2, by rw [HN1.out]; exact h32, HN2.out⟩)
        have HCs := Lib.hid (show (Tryd.prog.info? 52).map (·.size) = some (#[Value.int .i64 (pV a), .slice p1 n1 k1, .slice p2 32 k2] : Array Value).size from z3_info)
        have HOs := Lib.hid (show (#[Value.int .i64 (pV a), .slice p1 n1 k1, .slice p2 32 k2] : Array Value).all (·.oneCell') = true by simp [Value.oneCell'])
        go_wp2_with (first | (go_at_call 29; with_reducible refine (fit_yes _ _ HFY.out.1 HFY.out.2).mono ?_; rintro e w' ⟨rfl, rfl⟩) | with_reducible refine wpList_store_row rfl 52 (.tmp 2) (.tmp 67) rfl w.heap.size #[.int .i64 (pV a), .slice p1 n1 k1, .slice p2 32 k2] rfl rfl 52 _ HT4.out HCs.out rfl HOs.out ?_)
        exact bodyPost_ret (results_cell_slot rfl _ _ w.heap.size 52 #[.int .i64 (pV a), .slice p1 n1 k1, .slice p2 32 k2] (0, 0) _ (.bool true) rfl (setRow_heap w4 w.heap.size _ _ _ _ HT4.out) Tryd.underlying52 rfl HCs.out rfl) rfl (parseB_yes HN.out HV.out HN1.out (bs_set_ne HBS1.out HT4.out _) hk1 hk1m hnil1 (bs_set_ne HBS2.out HT4.out _) hr1 h32 HN2.out (below_setRow HB4.out (Nat.le_refl _) _))
      · have d2 : ((n2 : Int) != 32) = true := by simp; omega
        have HN := Lib.hid (recOf3_out HA.out HBb.out HDd.out (by rw [HN2.out]; omega))
        go_wp2_with (first | (go_at_call 29; (first | (with_reducible refine (fit_no _ _ HFN.out).mono ?_) | (with_reducible refine (fit_yes _ _ HFY.out.1 HFY.out.2).mono ?_)); rintro e w' ⟨rfl, rfl⟩) | with_reducible refine wpList_store_row rfl 52 (.tmp 2) (.tmp 63) rfl w.heap.size #[.int .i64 0, .slice none 0 0, .slice none 0 0] rfl rfl 52 _ HT4.out HC.out rfl HO.out ?_)
        exact bodyPost_ret (results_cell_slot rfl _ _ w.heap.size 52 #[.int .i64 0, .slice none 0 0, .slice none 0 0] (0, 0) _ (.bool false) rfl (setRow_heap w4 w.heap.size _ _ _ _ HT4.out) Tryd.underlying52 rfl HC.out rfl) rfl (parseB_no HN.out (below_setRow HB4.out (Nat.le_refl _) _))
    · have d1 : decide (32 < (n1 : Int)) = true := decide_eq_true (by omega)
      have HN := Lib.hid (recOf3_out HA.out HBb.out HDd.out (by rw [HN1.out]; omega))
      go_wp2_with (first | (go_at_call 29; (first | (with_reducible refine (fit_no _ _ HFN.out).mono ?_) | (with_reducible refine (fit_yes _ _ HFY.out.1 HFY.out.2).mono ?_)); rintro e w' ⟨rfl, rfl⟩) | with_reducible refine wpList_store_row rfl 52 (.tmp 2) (.tmp 63) rfl w.heap.size #[.int .i64 0, .slice none 0 0, .slice none 0 0] rfl rfl 52 _ HT4.out HC.out rfl HO.out ?_)
      exact bodyPost_ret (results_cell_slot rfl _ _ w.heap.size 52 #[.int .i64 0, .slice none 0 0, .slice none 0 0] (0, 0) _ (.bool false) rfl (setRow_heap w4 w.heap.size _ _ _ _ HT4.out) Tryd.underlying52 rfl HC.out rfl) rfl (parseB_no HN.out (below_setRow HB4.out (Nat.le_refl _) _))
  · have HFN := Lib.hid hfit
    have HN := Lib.hid (recOf3_out HA.out HBb.out HDd.out (by have := HV.out; omega))
    clear hfit
    go_wp2_with (first | (go_at_call 29; (first | (with_reducible refine (fit_no _ _ HFN.out).mono ?_) | (with_reducible refine (fit_yes _ _ HFY.out.1 HFY.out.2).mono ?_)); rintro e w' ⟨rfl, rfl⟩) | with_reducible refine wpList_store_row rfl 52 (.tmp 2) (.tmp 63) rfl w.heap.size #[.int .i64 0, .slice none 0 0, .slice none 0 0] rfl rfl 52 _ HT4.out HC.out rfl HO.out ?_)
    exact bodyPost_ret (results_cell_slot rfl _ _ w.heap.size 52 #[.int .i64 0, .slice none 0 0, .slice none 0 0] (0, 0) _ (.bool false) rfl (setRow_heap w4 w.heap.size _ _ _ _ HT4.out) Tryd.underlying52 rfl HC.out rfl) rfl (parseB_no HN.out (below_setRow HB4.out (Nat.le_refl _) _))

end Go.Proofs.YtjcohlpjlifolaaDoor.MacT
