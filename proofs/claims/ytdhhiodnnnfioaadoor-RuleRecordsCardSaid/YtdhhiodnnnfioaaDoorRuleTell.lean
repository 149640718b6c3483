/-
  Rules by two maps and by the first letter: pure; and a look-up of what is not there.
-/
import Derived.Test.YtdhhiodnnnfioaaDoorRuleGood
import Derived.Test.YtdhhiodnnnfioaaDoorMapLits
import Derived.Lib.IndexMore
namespace Go.Proofs.YtdhhiodnnnfioaaDoor.RuleK
open Go.RowKit Kit TableMath Low StrT RuleT RefRule MapT Go.MapKept
set_option linter.unusedVariables false
set_option maxRecDepth 100000

/-- A look-up of a key that is not there. -/
theorem lookup_no {P : Program} {t k e : TypeId} (ht : P.underlying t = some (.map k e)) (hk : P.underlying k = some .string) {W : World} {b : Nat} {L : List (List UInt8 × Value)} (h : MapAt W b L) (T : ByteArray) (Z : Value) (hz : (zeroValue e).run P W = .ok Z W) (hno : ∀ Z', getM L T.data.toList Z' = Z') :
    (Instr.lookup t (.map (some b)) (.string T) true).run P W = .ok (.tuple #[Z, .bool false]) W := by
  obtain ⟨es, clock, hh, hes⟩ := h
  obtain ⟨r, hr, hZ⟩ := find_lit T.data.toList es.toList L 0 hes
  have hr' : Instr.findNow .string (.string T) es.toList 0 = some r := hr
  cases r with
  | none => simp [Instr.lookup, run_underlying ht, Go.MapKept.run_getObj_map hh, Go.MapKept.run_checkKey hk (d := .string) (k := .string T) trivial, Go.MapKept.run_findKey hk hr', hz, Result.andThen]
  | some q =>
    have h1 : q.2 = .bool true := (hZ (.bool true)).trans (hno _)
    have h2 : q.2 = .bool false := (hZ (.bool false)).trans (hno _)
    have h3 : (Value.bool true) = .bool false := h1.symm.trans h2
    cases h3

/-- Where a text is cut: at its first ~. -/
def cutT : List UInt8 → List UInt8 × List UInt8
  | [] => ([], [])
  | c :: r => if c = 126 then ([], r) else (c :: (cutT r).1, (cutT r).2)
theorem cut_is : ∀ l : List UInt8, (Lib.cut l [126]).1 = (cutT l).1 ∧ (Lib.cut l [126]).2.1 = (cutT l).2
  | [] => ⟨rfl, rfl⟩
  | c :: r => by
    obtain ⟨h1, h2⟩ := cut_is r
    by_cases hc : c = 126
    · subst hc
      exact ⟨rfl, rfl⟩
    · have hge := Lib.index_ge r [126]
      have hp : ([126] : List UInt8).isPrefixOf (c :: r) = false := by
        simp [List.isPrefixOf]
        exact fun h => hc h.symm
      rw [show cutT (c :: r) = (c :: (cutT r).1, (cutT r).2) from if_neg hc]
      by_cases hi : Lib.index r [126] = -1
      · have hj : Lib.index (c :: r) [126] = -1 := by
          rw [Lib.index, hp, hi]
          rfl
        unfold Lib.cut at h1 h2 ⊢
        rw [hi] at h1 h2
        rw [hj]
        simp at h1 h2 ⊢
        exact ⟨h1, h2⟩
      · obtain ⟨n, hn⟩ : ∃ n : Nat, Lib.index r [126] = n := ⟨(Lib.index r [126]).toNat, by omega⟩
        have hj : Lib.index (c :: r) [126] = ((n + 1 : Nat) : Int) := by
          rw [Lib.index, hp, hn]
          have : ((n : Int) == -1) = false := by simp
          simp [this]
        unfold Lib.cut at h1 h2 ⊢
        rw [hn] at h1 h2
        rw [hj]
        have e1 : (0 : Int) ≤ (n : Int) := by omega
        have e2 : (0 : Int) ≤ ((n + 1 : Nat) : Int) := by omega
        rw [if_pos e1] at h1 h2
        rw [if_pos e2]
        simp at h1 h2 ⊢
        first | exact ⟨h1, h2⟩ | exact h1
theorem cut_spec : ∀ l : List UInt8, (126 ∉ l ∧ cutT l = (l, [])) ∨ (∃ h t, l = h ++ 126 :: t ∧ 126 ∉ h ∧ cutT l = (h, t))
  | [] => Or.inl ⟨by simp, rfl⟩
  | c :: r => by
    by_cases hc : c = 126
    · subst hc
      exact Or.inr ⟨[], r, rfl, by simp, rfl⟩
    · have e : cutT (c :: r) = (c :: (cutT r).1, (cutT r).2) := if_neg hc
      rcases cut_spec r with ⟨h1, h2⟩ | ⟨h, t, h1, h2, h3⟩
      · refine Or.inl ⟨by simp only [List.mem_cons, not_or]; exact ⟨fun h => hc h.symm, h1⟩, ?_⟩
        rw [e, h2]
      · refine Or.inr ⟨c :: h, t, by rw [h1]; rfl, by simp only [List.mem_cons, not_or]; exact ⟨fun h => hc h.symm, h2⟩, ?_⟩
        rw [e, h3]

/-- What a table of rules has at a word. -/
def atL (L : List (List UInt8 × RV)) (s : List UInt8) : Option RV := (L.find? fun p => decide (p.1 = s)).map (·.2)
def mapV (L : List (List UInt8 × RV)) : List (List UInt8 × Value) := L.map fun p => (p.1, p.2.agg)
theorem get_mapV (L : List (List UInt8 × RV)) (s : List UInt8) (Z : Value) : getM (mapV L) s Z = (match atL L s with | some v => v.agg | none => Z) := by
  unfold getM mapV atL
  rw [List.find?_map]
  have e : ((fun p : List UInt8 × Value => decide (p.1 = s)) ∘ fun p : List UInt8 × RV => (p.1, p.2.agg)) = fun p : List UInt8 × RV => decide (p.1 = s) := rfl
  rw [e]
  cases L.find? fun p : List UInt8 × RV => decide (p.1 = s) <;> rfl
theorem get_yes {L : List (List UInt8 × RV)} {s : List UInt8} {v : RV} (h : atL L s = some v) (Z : Value) : getM (mapV L) s Z = v.agg := by rw [get_mapV, h]
theorem get_no {L : List (List UInt8 × RV)} {s : List UInt8} (h : atL L s = none) (Z : Value) : getM (mapV L) s Z = Z := by rw [get_mapV, h]
theorem at_mem {L : List (List UInt8 × RV)} {s : List UInt8} {v : RV} (h : atL L s = some v) : (s, v) ∈ L := by
  unfold atL at h
  cases hf : L.find? fun p => decide (p.1 = s) with
  | none => rw [hf] at h; cases h
  | some p =>
    rw [hf] at h
    have h1 : p.2 = v := Option.some.inj h
    have h2 : p.1 = s := by simpa using List.find?_some hf
    have h3 := List.mem_of_find?_eq_some hf
    rw [← h1, ← h2]
    exact h3
theorem at_none {L : List (List UInt8 × RV)} {s : List UInt8} (h : atL L s = none) : ∀ p ∈ L, p.1 ≠ s := by
  unfold atL at h
  intro p hp
  have hf := (List.find?_eq_none.1 (Option.map_eq_none_iff.1 h)) p hp
  simpa using hf

def wholeL : List (List UInt8 × RV) := [([111, 110], ⟨1, [], false, false, 0⟩), ([111, 102, 102], ⟨2, [], false, false, 0⟩), ([110, 111, 112, 97, 115, 115], ⟨3, [], false, false, 0⟩), ([114, 101, 115, 101, 116, 112, 97, 115, 115], ⟨4, [], false, false, 0⟩), ([114, 101, 115, 101, 116, 107, 101, 121, 115], ⟨11, [], false, false, 0⟩), ([114, 101, 115, 101, 116, 99, 104, 97, 110, 110, 101, 108, 115], ⟨13, [], false, false, 0⟩), ([114, 101, 115, 101, 116], ⟨14, [], false, false, 0⟩), ([97, 108, 108, 99, 111, 109, 109, 97, 110, 100, 115], ⟨8, [], false, false, 72057594037927935⟩), ([110, 111, 99, 111, 109, 109, 97, 110, 100, 115], ⟨9, [], false, false, 72057594037927935⟩), ([97, 108, 108, 107, 101, 121, 115], ⟨10, [42], true, true, 0⟩), ([97, 108, 108, 99, 104, 97, 110, 110, 101, 108, 115], ⟨12, [42], false, false, 0⟩)]
def headsL : List (List UInt8 × RV) := [([], ⟨10, [], true, true, 0⟩), ([37, 82], ⟨10, [], true, false, 0⟩), ([37, 87], ⟨10, [], false, true, 0⟩), ([37, 82, 87], ⟨10, [], true, true, 0⟩)]
theorem whole_nodup : ((mapV wholeL).map (·.1)).Nodup := by decide +kernel
theorem heads_nodup : ((mapV headsL).map (·.1)).Nodup := by decide +kernel
theorem whole_all : wholeL.all (fun p => decide (ruleD p.1 = some p.2)) = true := by decide +kernel
theorem whole_yes {s : List UInt8} {v : RV} (h : atL wholeL s = some v) : ruleD s = some v := by
  have := List.all_eq_true.1 whole_all _ (at_mem h)
  exact of_decide_eq_true this
theorem rule_empty : ruleD [] = none := by decide +kernel
theorem heads_all : headsL.all (fun p => decide (p.2.s = [] ∧ p.2.mask = 0 ∧ p.2.kind = 10)) = true := by decide +kernel
theorem heads_has {s : List UInt8} {v : RV} (h : atL headsL s = some v) : v = ⟨10, [], v.r, v.w, 0⟩ := by
  obtain ⟨h1, h2, h3⟩ := of_decide_eq_true (List.all_eq_true.1 heads_all _ (at_mem h))
  cases v
  simp only at h1 h2 h3
  rw [h1, h2, h3]
def keysD (l : List UInt8) : Option RV :=
  match atL headsL (cutT l).1 with
  | some v => patD 10 (cutT l).2 v.r v.w
  | none => none
theorem pat_empty (k : Nat) (a b : Bool) : patD k [] a b = none := rfl

theorem word_first {c : UInt8} {r : List UInt8} (h : atL wholeL (c :: r) = none) : otherD (c :: r) = c :: r ∧ plainD (c :: r) = none := by
  have hw : ∀ i (hi : i < 11), (wholeL[i]'hi).1 ≠ c :: r := fun i hi => at_none h _ (List.getElem_mem _)
  refine ⟨?_, ?_⟩
  · unfold otherD allC noC allKy allCh
    rw [if_neg (fun e => hw 7 (by decide) e.symm), if_neg (fun e => hw 8 (by decide) e.symm), if_neg (fun e => hw 9 (by decide) e.symm), if_neg (fun e => hw 10 (by decide) e.symm)]
  · apply plain_none
    have a1 := plain_next (s := c :: r) 0 (by decide) (Nat.zero_le _) (hw 0 (by decide))
    have a2 := plain_next 1 (by decide) a1 (hw 1 (by decide))
    have a3 := plain_next 2 (by decide) a2 (hw 2 (by decide))
    have a4 := plain_next 3 (by decide) a3 (hw 3 (by decide))
    have a5 := plain_next 4 (by decide) a4 (hw 4 (by decide))
    have a6 := plain_next 5 (by decide) a5 (hw 5 (by decide))
    exact plain_next 6 (by decide) a6 (hw 6 (by decide))
theorem none_first {c : UInt8} {r : List UInt8} (h : atL wholeL (c :: r) = none) (h62 : c ≠ 62) (h35 : c ≠ 35) (h33 : c ≠ 33) (h43 : c ≠ 43) (h45 : c ≠ 45) (h126 : c ≠ 126) (h37 : c ≠ 37) (h38 : c ≠ 38) : ruleD (c :: r) = none := by
  obtain ⟨e1, e2⟩ := word_first h
  unfold ruleD
  rw [e1]
  have a1 := mark_next (s := c :: r) 0 (by decide) (Nat.zero_le _) (fun e => h62 (List.cons.inj e).1)
  have a2 := mark_next 1 (by decide) a1 (fun e => h35 (List.cons.inj e).1)
  have a3 := mark_next 2 (by decide) a2 (fun e => h33 (List.cons.inj e).1)
  have a4 := mark_next 3 (by decide) a3 (fun e => h43 (List.cons.inj e).1)
  have a5 := mark_next 4 (by decide) a4 (fun e => h45 (List.cons.inj e).1)
  have a6 := mark_next 5 (by decide) a5 (fun e => h126 (List.cons.inj e).1)
  have a7 := mark_next 6 (by decide) a6 (fun e => h37 (List.cons.inj e).1)
  have a8 := mark_next 7 (by decide) a7 (fun e => h37 (List.cons.inj e).1)
  have a9 := mark_next 8 (by decide) a8 (fun e => h37 (List.cons.inj e).1)
  exact mark_none e2 (mark_next 9 (by decide) a9 (fun e => h38 (List.cons.inj e).1))
theorem pct_none {r : List UInt8} (h1 : r.take 2 ≠ [82, 126]) (h2 : r.take 2 ≠ [87, 126]) (h3 : r.take 3 ≠ [82, 87, 126]) : ruleD (37 :: r) = none := by
  unfold ruleD
  rw [other_of (by decide) (by decide)]
  have a1 := mark_next (s := 37 :: r) 0 (by decide) (Nat.zero_le _) (fun e => absurd (List.cons.inj e).1 (by decide))
  have a2 := mark_next 1 (by decide) a1 (fun e => absurd (List.cons.inj e).1 (by decide))
  have a3 := mark_next 2 (by decide) a2 (fun e => absurd (List.cons.inj e).1 (by decide))
  have a4 := mark_next 3 (by decide) a3 (fun e => absurd (List.cons.inj e).1 (by decide))
  have a5 := mark_next 4 (by decide) a4 (fun e => absurd (List.cons.inj e).1 (by decide))
  have a6 := mark_next 5 (by decide) a5 (fun e => absurd (List.cons.inj e).1 (by decide))
  have a7 := mark_next 6 (by decide) a6 (fun e => h1 (List.cons.inj e).2)
  have a8 := mark_next 7 (by decide) a7 (fun e => h2 (List.cons.inj e).2)
  have a9 := mark_next 8 (by decide) a8 (fun e => h3 (List.cons.inj e).2)
  exact mark_none (plain_of (by decide) (by decide) (by decide)) (mark_next 9 (by decide) a9 (fun e => absurd (List.cons.inj e).1 (by decide)))
theorem take_cut2 {h t : List UInt8} {c : UInt8} (hh : 126 ∉ h) (hc : c ≠ 126) (e : (h ++ 126 :: t).take 2 = [c, 126]) : h = [c] := by
  match h, hh, e with
  | [], _, e => exact absurd (List.cons.inj e).1.symm hc
  | [a], _, e => rw [show a = c from (List.cons.inj e).1]
  | a :: b :: h, hh, e =>
    have : b = 126 := (List.cons.inj (List.cons.inj e).2).1
    exact absurd (by rw [this]; simp) hh
theorem take_cut3 {h t : List UInt8} {c d : UInt8} (hh : 126 ∉ h) (hc : c ≠ 126) (hd : d ≠ 126) (e : (h ++ 126 :: t).take 3 = [c, d, 126]) : h = [c, d] := by
  match h, hh, e with
  | [], _, e => exact absurd (List.cons.inj e).1.symm hc
  | [a], _, e => exact absurd (List.cons.inj (List.cons.inj e).2).1.symm hd
  | [a, b], _, e => rw [show a = c from (List.cons.inj e).1, show b = d from (List.cons.inj (List.cons.inj e).2).1]
  | a :: b :: x :: h, hh, e =>
    have : x = 126 := (List.cons.inj (List.cons.inj (List.cons.inj e).2).2).1
    exact absurd (by rw [this]; simp) hh
theorem rule_keys {c : UInt8} {r : List UInt8} (h : c = 126 ∨ c = 37) : ruleD (c :: r) = keysD (c :: r) := by
  rcases h with rfl | rfl
  · rw [rule_both]
    rfl
  · have e : cutT (37 :: r) = (37 :: (cutT r).1, (cutT r).2) := rfl
    rcases cut_spec r with ⟨h1, h2⟩ | ⟨h, t, h1, h2, h3⟩
    · have hk : keysD (37 :: r) = none := by
        unfold keysD
        rw [e, h2]
        cases atL headsL (37 :: r) with
        | none => rfl
        | some v => exact pat_empty _ _ _
      rw [hk]
      have hno : ∀ n (L : List UInt8), 126 ∈ L → r.take n ≠ L := fun n L hL e => h1 (List.mem_of_mem_take (i := n) (by rw [e]; exact hL))
      exact pct_none (hno _ _ (by simp)) (hno _ _ (by simp)) (hno _ _ (by simp))
    · by_cases g1 : h = [82]
      · subst g1 h1
        rw [show ([82] ++ 126 :: t : List UInt8) = 82 :: 126 :: t from rfl, rule_read]
        rfl
      · by_cases g2 : h = [87]
        · subst g2 h1
          rw [show ([87] ++ 126 :: t : List UInt8) = 87 :: 126 :: t from rfl, rule_write]
          rfl
        · by_cases g3 : h = [82, 87]
          · subst g3 h1
            rw [show ([82, 87] ++ 126 :: t : List UInt8) = 82 :: 87 :: 126 :: t from rfl, rule_rw]
            rfl
          · have hk : keysD (37 :: r) = none := by
              unfold keysD
              rw [e, h3]
              have : atL headsL (37 :: h) = none := by
                cases ha : atL headsL (37 :: h) with
                | none => rfl
                | some v =>
                  have := at_mem ha
                  simp [headsL] at this
                  rcases this with ⟨h', _⟩ | ⟨h', _⟩ | ⟨h', _⟩
                  · exact absurd h' g1
                  · exact absurd h' g2
                  · exact absurd h' g3
              rw [this]
            rw [hk, h1]
            exact pct_none (fun e => g1 (take_cut2 h2 (by decide) e)) (fun e => g2 (take_cut2 h2 (by decide) e)) (fun e => g3 (take_cut3 h2 (by decide) (by decide) e))

end Go.Proofs.YtdhhiodnnnfioaaDoor.RuleK
