/-
  The answers of the document for layer 17 (package tipstaffref17).
-/
import Derived.Test.YtdhhiodnnnfioaaDoorRuleMath
import Derived.Test.YtdhhiodnnnfioaaDoorRefTabz
import Derived.Test.YtdhhiodnnnfioaaDoorRefWord
import Derived.Test.YtdhhiodnnnfioaaDoorQuietTail
import Derived.Test.YtdhhiodnnnfioaaDoorRefMacz
import Derived.Lib.QuietBelow
namespace Go.Proofs.YtdhhiodnnnfioaaDoor.RefRule
open Go.RowKit Kit TableMath Low StrT RuleT
open Go.Sort (grow)
set_option linter.unusedVariables false
set_option maxRecDepth 100000

theorem size_l {s : ByteArray} : s.data.toList.length = s.size := by simp
theorem str_of {s : ByteArray} {l : List UInt8} (h : s.data.toList = l) : s = ⟨l.toArray⟩ := by
  apply ByteArray.ext
  apply Array.toList_inj.1
  rw [h]
theorem rule_size : (Tryd.prog.info? 25).map (·.size) = some 5 := by kernel_rfl
theorem build_no (w : World) : (Instr.build 25 #[]).run Tryd.prog w = .ok (.agg #[.int .u8 0, .string ⟨#[]⟩, .bool false, .bool false, .int .u64 0]) w := run_build w 25 _ _ (by kernel_rfl)
theorem build_k (k : Int) (w : World) : (Instr.build 25 #[(0, .int .u8 k)]).run Tryd.prog w = .ok (.agg #[.int .u8 k, .string ⟨#[]⟩, .bool false, .bool false, .int .u64 0]) w := run_build w 25 _ _ (by kernel_rfl)
theorem build_ks (k : Int) (S : ByteArray) (w : World) : (Instr.build 25 #[(0, .int .u8 k), (1, .string S)]).run Tryd.prog w = .ok (.agg #[.int .u8 k, .string S, .bool false, .bool false, .int .u64 0]) w := run_build w 25 _ _ (by kernel_rfl)
theorem build_km (k m : Int) (w : World) : (Instr.build 25 #[(0, .int .u8 k), (4, .int .u64 m)]).run Tryd.prog w = .ok (.agg #[.int .u8 k, .string ⟨#[]⟩, .bool false, .bool false, .int .u64 m]) w := run_build w 25 _ _ (by kernel_rfl)
theorem build_ksrw (k : Int) (S : ByteArray) (a b : Bool) (w : World) : (Instr.build 25 #[(0, .int .u8 k), (1, .string S), (2, .bool a), (3, .bool b)]).run Tryd.prog w = .ok (.agg #[.int .u8 k, .string S, .bool a, .bool b, .int .u64 0]) w := run_build w 25 _ _ (by kernel_rfl)
/-- A rule's cells. -/
def rcells (k : Int) (S : ByteArray) (a b : Bool) (m : Int) : Array Value := #[.int .u8 k, .string S, .bool a, .bool b, .int .u64 m]
theorem rule_cs (k : Int) (S : ByteArray) (a b : Bool) (m : Int) : (Tryd.prog.info? 25).map (·.size) = some (#[Value.int .u8 k, .string S, .bool a, .bool b, .int .u64 m] : Array Value).size := rule_size
theorem rule_one (k : Int) (S : ByteArray) (a b : Bool) (m : Int) : (#[Value.int .u8 k, .string S, .bool a, .bool b, .int .u64 m] : Array Value).all (·.oneCell') = true := by simp [Value.oneCell']

theorem begins_no (s t : ByteArray) (w : World) (h : s.data.toList.take t.size ≠ t.data.toList) (hs : s.size ≤ 1048576) (ht : t.size ≤ 100) :
    Calls Tryd.prog 23 #[.string s, .string t] w fun e w' => e = .returned (.tuple #[.string ⟨#[]⟩, .bool false]) ∧ w = w' := by
  by_cases hlt : s.size < t.size
  · have d1 : decide ((s.size : Int) < (t.size : Int)) = true := decide_eq_true (by omega)
    clear h
    go_enter Tryd.func23, Tryd.ntmps23
    go_wp2_with fail
    go_ret2
    exact ⟨rfl, rfl⟩
  · have d1 : decide ((s.size : Int) < (t.size : Int)) = false := decide_eq_false (by omega)
    obtain ⟨X, hX⟩ : ∃ X, X = s.extract 0 t.size := ⟨_, rfl⟩
    have hn : (X.toList != t.toList) = true := by
      rw [ByteArray.toList_eq, ByteArray.toList_eq, bne_iff_ne, hX, Lib.extract_from_zero]
      exact h
    have hn2 : (X.toList == t.toList) = false := by simpa using hn
    have s1 : ∀ W, (Instr.slice 9 (.string s) none (some (.int .i64 (t.size : Int))) none).run Tryd.prog W = .ok (.string X) W := fun W => by
      have h := run_slice_string_h (P := Tryd.prog) W 9 s Tryd.underlying9 .i64 (t.size : Int) (by omega) (by omega)
      rw [Int.toNat_natCast, ← hX] at h
      exact h
    clear h hX
    go_enter Tryd.func23, Tryd.ntmps23
    go_wp2_with fail
    go_ret2
    exact ⟨rfl, rfl⟩
theorem begins_yes (s t R : ByteArray) (w : World) (h : s.data.toList.take t.size = t.data.toList) (hR : R = ⟨(s.data.toList.drop t.size).toArray⟩) (hs : s.size ≤ 1048576) (ht : t.size ≤ 100) :
    Calls Tryd.prog 23 #[.string s, .string t] w fun e w' => e = .returned (.tuple #[.string R, .bool true]) ∧ w = w' := by
  have hle : t.size ≤ s.size := by
    have := congrArg List.length h
    rw [List.length_take, size_l, size_l] at this
    omega
  have d1 : decide ((s.size : Int) < (t.size : Int)) = false := decide_eq_false (by omega)
  have hX : s.extract 0 t.size = t := by
    apply ByteArray.ext
    apply Array.toList_inj.1
    rw [Lib.extract_from_zero]
    exact h
  have hn : (t.toList != t.toList) = false := bne_self_eq_false _
  have s1 : ∀ W, (Instr.slice 9 (.string s) none (some (.int .i64 (t.size : Int))) none).run Tryd.prog W = .ok (.string t) W := fun W => by
    have h := run_slice_string_h (P := Tryd.prog) W 9 s Tryd.underlying9 .i64 (t.size : Int) (by omega) (by omega)
    rw [Int.toNat_natCast, hX] at h
    exact h
  have hR2 : s.extract t.size s.size = R := by
    apply ByteArray.ext
    apply Array.toList_inj.1
    rw [Lib.extract_data, hR]
    rw [List.take_of_length_le (by rw [List.length_drop, size_l]; omega)]
  have s2 : ∀ W, (Instr.slice 9 (.string s) (some (.int .i64 (t.size : Int))) none none).run Tryd.prog W = .ok (.string R) W := fun W => by
    have h := run_slice_string_l (P := Tryd.prog) W 9 s Tryd.underlying9 .i64 (t.size : Int) (by omega) (by omega)
    rw [Int.toNat_natCast, hR2] at h
    exact h
  clear h hX hR hR2
  go_enter Tryd.func23, Tryd.ntmps23
  go_wp2_with fail
  go_ret2
  exact ⟨rfl, rfl⟩

theorem eq_str (s : ByteArray) (l L : List UInt8) (h : s.data.toList = l) : (s.toList == L) = decide (l = L) := by
  rw [ByteArray.toList_eq, h, Bool.eq_iff_iff, beq_iff_eq, decide_eq_true_eq]
set_option maxHeartbeats 1000000 in
theorem other_any (s T : ByteArray) (w : World) (hT : T.data.toList = otherD s.data.toList) :
    Calls Tryd.prog 21 #[.string s] w fun e w' => e = .returned (.string T) ∧ w = w' := by
  have h1 := eq_str s _ allC rfl
  have h2 := eq_str s _ noC rfl
  have h3 := eq_str s _ allKy rfl
  have h4 := eq_str s _ allCh rfl
  by_cases c1 : s.data.toList = allC
  · have e := str_of (hT.trans (by unfold otherD; rw [if_pos c1]))
    have HE := Lib.hid e
    rw [decide_eq_true c1] at h1
    unfold allC at h1
    clear h2 h3 h4 hT c1 e
    go_enter Tryd.func21, Tryd.ntmps21
    go_wp2_with fail
    go_ret
    exact ⟨by rw [HE.out]; rfl, rfl⟩
  by_cases c2 : s.data.toList = noC
  · have e := str_of (hT.trans (by unfold otherD; rw [if_neg c1, if_pos c2]))
    have HE := Lib.hid e
    rw [decide_eq_false c1] at h1
    rw [decide_eq_true c2] at h2
    unfold allC at h1
    unfold noC at h2
    clear h3 h4 hT c1 c2 e
    go_enter Tryd.func21, Tryd.ntmps21
    go_wp2_with fail
    go_ret
    exact ⟨by rw [HE.out]; rfl, rfl⟩
  by_cases c3 : s.data.toList = allKy
  · have e := str_of (hT.trans (by unfold otherD; rw [if_neg c1, if_neg c2, if_pos c3]))
    have HE := Lib.hid e
    rw [decide_eq_false c1] at h1
    rw [decide_eq_false c2] at h2
    rw [decide_eq_true c3] at h3
    unfold allC at h1
    unfold noC at h2
    unfold allKy at h3
    clear h4 hT c1 c2 c3 e
    go_enter Tryd.func21, Tryd.ntmps21
    go_wp2_with fail
    go_ret
    exact ⟨by rw [HE.out]; rfl, rfl⟩
  by_cases c4 : s.data.toList = allCh
  · have e := str_of (hT.trans (by unfold otherD; rw [if_neg c1, if_neg c2, if_neg c3, if_pos c4]))
    have HE := Lib.hid e
    rw [decide_eq_false c1] at h1
    rw [decide_eq_false c2] at h2
    rw [decide_eq_false c3] at h3
    rw [decide_eq_true c4] at h4
    unfold allC at h1
    unfold noC at h2
    unfold allKy at h3
    unfold allCh at h4
    clear hT c1 c2 c3 c4 e
    go_enter Tryd.func21, Tryd.ntmps21
    go_wp2_with fail
    go_ret
    exact ⟨by rw [HE.out]; rfl, rfl⟩
  · have e := str_of (hT.trans (by unfold otherD; rw [if_neg c1, if_neg c2, if_neg c3, if_neg c4]))
    have e2 : T = s := e.trans (str_of rfl).symm
    have HE := Lib.hid e2
    rw [decide_eq_false c1] at h1
    rw [decide_eq_false c2] at h2
    rw [decide_eq_false c3] at h3
    rw [decide_eq_false c4] at h4
    unfold allC at h1
    unfold noC at h2
    unfold allKy at h3
    unfold allCh at h4
    clear hT c1 c2 c3 c4 e e2
    go_enter Tryd.func21, Tryd.ntmps21
    go_wp2_with fail
    go_ret
    exact ⟨by rw [HE.out]; rfl, rfl⟩

theorem patD_yes {k : Nat} {s : List UInt8} {r w : Bool} (h : NumW.wordB s = true) : patD k s r w = some ⟨k, s, r, w, 0⟩ := if_pos h
theorem patD_no {k : Nat} {s : List UInt8} {r w : Bool} (h : NumW.wordB s = false) : patD k s r w = none := if_neg (by rw [h]; exact Bool.false_ne_true)
/-- What is answered of a rule that may be none. -/
def ansR (o : Option RV) (e : Ending) : Prop := e = .returned (.tuple #[(o.getD noR).agg, .bool o.isSome])
theorem results_cell_slot {P : Program} {fn : Func} {p q : Tmp} {ty : TypeId} (h : fn.results = #[.cell p ty, .tmp q]) (tmps : Array Value) (w : World) (g : Nat) (t : TypeId) (cs : Array Value) (fr : Nat × Nat) (d : TypeDesc) (v : Value)
    (hp : tmps.getD p undef = .pointer (some ⟨g, 0, none⟩)) (hg : w.heap[g]? = some (.cells cs t fr))
    (hu : P.underlying ty = some d) (hd : (match d with | .struct _ | .array _ _ => true | _ => false) = true) (hi : (P.info? ty).map (·.size) = some cs.size) (hq : tmps.getD q undef = v) :
    (results fn tmps).run P w = .ok (.tuple #[.agg cs, v]) w := by
  have hp' : tmps[p]?.getD undef = .pointer (some ⟨g, 0, none⟩) := by simpa using hp
  have hq' : tmps[q]?.getD undef = v := by simpa using hq
  simp [results, h, hp', hq', asAddr, run_loadVar_row w g t ty cs fr d hg hu hd hi]
theorem ans_of {o : Option RV} {v : RV} {k m : Int} {S : ByteArray} {a b : Bool} (h : o = some v) (hk : k = (v.kind : Int)) (hS : S = ⟨v.s.toArray⟩) (ha : a = v.r) (hb : b = v.w) (hm : m = (v.mask : Int)) : ansR o (.returned (.tuple #[.agg #[.int .u8 k, .string S, .bool a, .bool b, .int .u64 m], .bool true])) := by
  subst h hk hS ha hb hm
  rfl
theorem ans_no {o : Option RV} (h : o = none) : ansR o (.returned (.tuple #[.agg #[.int .u8 0, .string ⟨#[]⟩, .bool false, .bool false, .int .u64 0], .bool false])) := by
  subst h
  rfl

set_option maxHeartbeats 1000000 in
theorem pattern_any (k : Nat) (S : ByteArray) (a b : Bool) (w : World) (hk : k ≤ 255) (hs : S.size ≤ 1048576) :
    Calls Tryd.prog 25 #[.int .u8 (k : Int), .string S, .bool a, .bool b] w fun e w' => ansR (patD k S.data.toList a b) e ∧ Below w.heap.size w w' := by
  have C := Lib.hid (fun W => Ref01.word_ref S W (by unfold maxLen; omega))
  obtain ⟨B, hB⟩ : ∃ B, B = NumW.wordB S.data.toList := ⟨_, rfl⟩
  rw [← hB] at C
  have HC0 := Lib.hid (rule_cs 0 ⟨#[]⟩ false false 0)
  have HO0 := Lib.hid (rule_one 0 ⟨#[]⟩ false false 0)
  have HC1 := Lib.hid (rule_cs (k : Int) S a b 0)
  have HO1 := Lib.hid (rule_one (k : Int) S a b 0)
  have b0 := build_no
  have b1 := build_ksrw
  cases B with
  | true =>
    have HN := Lib.hid (patD_yes (k := k) (r := a) (w := b) hB.symm)
    clear hB
    go_enter Tryd.func25, Tryd.ntmps25
    go_wp2_with fail
    refine (C.out _).mono ?_
    rintro e w1 ⟨rfl, rfl⟩
    go_wp2_with (with_reducible refine wpList_store_row rfl 25 (.tmp 8) (.tmp 18) rfl w.heap.size #[.int .u8 (k : Int), .string S, .bool a, .bool b, .int .u64 0] rfl rfl 25 _ (heap_alloc_last w _) HC1.out rfl HO1.out ?_)
    exact bodyPost_ret (results_cell_slot rfl _ _ w.heap.size 25 #[.int .u8 (k : Int), .string S, .bool a, .bool b, .int .u64 0] (0, 0) _ (.bool true) rfl (setRow_heap _ w.heap.size _ _ _ _ (heap_alloc_last w _)) Tryd.underlying25 rfl HC1.out rfl) rfl ⟨ans_of HN.out rfl (str_of rfl) rfl rfl rfl, below_setRow (Kit.below1 _ _) (Nat.le_refl _) _⟩
  | false =>
    have HN := Lib.hid (patD_no (k := k) (r := a) (w := b) hB.symm)
    clear hB
    go_enter Tryd.func25, Tryd.ntmps25
    go_wp2_with fail
    refine (C.out _).mono ?_
    rintro e w1 ⟨rfl, rfl⟩
    go_wp2_with (with_reducible refine wpList_store_row rfl 25 (.tmp 8) (.tmp 13) rfl w.heap.size #[.int .u8 0, .string ⟨#[]⟩, .bool false, .bool false, .int .u64 0] rfl rfl 25 _ (heap_alloc_last w _) HC0.out rfl HO0.out ?_)
    exact bodyPost_ret (results_cell_slot rfl _ _ w.heap.size 25 #[.int .u8 0, .string ⟨#[]⟩, .bool false, .bool false, .int .u64 0] (0, 0) _ (.bool false) rfl (setRow_heap _ w.heap.size _ _ _ _ (heap_alloc_last w _)) Tryd.underlying25 rfl HC0.out rfl) rfl ⟨ans_no HN.out, below_setRow (Kit.below1 _ _) (Nat.le_refl _) _⟩

end Go.Proofs.YtdhhiodnnnfioaaDoor.RefRule
namespace Go.Proofs.YtdhhiodnnnfioaaDoor.Kit
open Go Go.Sort
set_option linter.unusedVariables false

theorem wp_region_quiet_tail_below {P : Program} {id : Nat} {Q : Exit → Act → World → Prop} {a : Act} {w : World} {l : List Oper} (n : Nat) (hm : P.follows .mixedOrders = true) (hB : Region.lexTailB .any l.toArray n = true)
    (h : wpQuiet P l.toArray (fun w' => ∃ p : Regrown, w' = grow (redrawn w p.d) p.os) (fun a' => ∀ w', (∃ p : Regrown, w' = grow (redrawn w p.d) p.os) → wpList P l.toArray Q (l.drop n) a' w') (l.take n) a) : (Code.region id l.toArray true).wp P Q a w :=
  wp_region_quiet_tail (C := fun w' => ∃ p : Regrown, w' = grow (redrawn w p.d) p.os) n hm hB ⟨⟨w.drawn + 1, #[]⟩, by rw [grow_empty]; rfl⟩ h

end Go.Proofs.YtdhhiodnnnfioaaDoor.Kit
namespace Go.Proofs.YtdhhiodnnnfioaaDoor.RefRule
open Go.RowKit Kit TableMath Low StrT RuleT
open Go.Sort (grow)
set_option linter.unusedVariables false
set_option maxRecDepth 100000

def plainO (l : List UInt8) : Option RV := (plainD l).map fun k => ⟨k, [], false, false, 0⟩
/-- The world of the loop: the room for the answer, the words, the kinds. -/
structure PL (w : World) (g b1 b2 : Nat) (w1 : World) : Prop where
  b : Below w.heap.size w w1
  h : w1.heap[g]? = some (.cells #[.int .u8 0, .string ⟨#[]⟩, .bool false, .bool false, .int .u64 0] 25 (0, 0))
  ge : w.heap.size ≤ g
  c1 : ∀ k (h : k < 7), w1.cell? ⟨b1, k, none⟩ = some (.string ⟨(plainW[k]'h).toArray⟩)
  c2 : ∀ k (h : k < 7), w1.cell? ⟨b2, k, none⟩ = some (.int .u8 ((plainK[k]'h : Nat) : Int))
  l1 : b1 < w1.heap.size
  l2 : b2 < w1.heap.size
def wordsV : Array Value := (plainW.map fun l => Value.string ⟨l.toArray⟩).toArray
def kindsV : Array Value := (plainK.map fun (k : Nat) => Value.int .u8 (k : Int)).toArray
theorem pl_new (w : World) (t1 t2 : TypeId) : PL w w.heap.size (w.heap.size + 1) (w.heap.size + 2) (((w.alloc (.cells #[.int .u8 0, .string ⟨#[]⟩, .bool false, .bool false, .int .u64 0] 25)).alloc (.cells wordsV t1)).alloc (.cells kindsV t2)) := by
  have h0 := heap_alloc_last w (.cells #[.int .u8 0, .string ⟨#[]⟩, .bool false, .bool false, .int .u64 0] 25)
  obtain ⟨w1, hw1⟩ : ∃ x, x = w.alloc (.cells #[.int .u8 0, .string ⟨#[]⟩, .bool false, .bool false, .int .u64 0] 25) := ⟨_, rfl⟩
  have s1 : w1.heap.size = w.heap.size + 1 := by rw [hw1]; simp
  have b1 : Below w.heap.size w w1 := by rw [hw1]; exact Kit.below1 _ _
  rw [← hw1] at h0 ⊢
  have h1 := heap_alloc_last w1 (.cells wordsV t1)
  obtain ⟨w2, hw2⟩ : ∃ x, x = w1.alloc (.cells wordsV t1) := ⟨_, rfl⟩
  have s2 : w2.heap.size = w1.heap.size + 1 := by rw [hw2]; simp
  have b2 : Below w1.heap.size w1 w2 := by rw [hw2]; exact Kit.below1 _ _
  rw [← hw2] at h1 ⊢
  have h2 := heap_alloc_last w2 (.cells kindsV t2)
  obtain ⟨w3, hw3⟩ : ∃ x, x = w2.alloc (.cells kindsV t2) := ⟨_, rfl⟩
  have s3 : w3.heap.size = w2.heap.size + 1 := by rw [hw3]; simp
  have b3 : Below w2.heap.size w2 w3 := by rw [hw3]; exact Kit.below1 _ _
  rw [← hw3] at h2 ⊢
  refine ⟨b1.trans ((b2.trans (b3.mono (by omega))).mono (by omega)), ?_, Nat.le_refl _, fun k hk => ?_, fun k hk => ?_, by omega, by omega⟩
  · rw [b3.block _ (by omega), b2.block _ (by omega)]
    exact h0
  · rw [b3.cell (p := ⟨_, k, none⟩) (by show w.heap.size + 1 < w2.heap.size; omega)]
    rw [s1] at h1
    rw [cell_of_row _ _ _ _ _ _ h1]
    match k, hk with
    | 0, _ => rfl
    | 1, _ => rfl
    | 2, _ => rfl
    | 3, _ => rfl
    | 4, _ => rfl
    | 5, _ => rfl
    | 6, _ => rfl
    | k + 7, hk => exact absurd hk (by omega)
  · rw [s2, s1] at h2
    rw [cell_of_row _ _ _ _ _ _ h2]
    match k, hk with
    | 0, _ => rfl
    | 1, _ => rfl
    | 2, _ => rfl
    | 3, _ => rfl
    | 4, _ => rfl
    | 5, _ => rfl
    | 6, _ => rfl
    | k + 7, hk => exact absurd hk (by omega)
theorem plainO_at {l : List UInt8} (k : Nat) (hk : k < 7) (hle : k ≤ plainF l) (h : plainW[k]'hk = l) : plainO l = some ⟨plainK[k]'hk, [], false, false, 0⟩ := by
  unfold plainO
  rw [plain_at k hk hle h]
  rfl
theorem plainO_none {l : List UInt8} (h : 7 ≤ plainF l) : plainO l = none := by
  unfold plainO
  rw [plain_none h]
  rfl
set_option maxHeartbeats 2000000 in
theorem plain_any (s : ByteArray) (w : World) :
    Calls Tryd.prog 22 #[.string s] w fun e w' => ansR (plainO s.data.toList) e ∧ Below w.heap.size w w' := by
  obtain ⟨l, hl⟩ : ∃ l, l = s.data.toList := ⟨_, rfl⟩
  have HS := Lib.hid hl.symm
  rw [← hl]
  have HLe := Lib.hid (plainF_le l)
  have HC0 := Lib.hid (rule_cs 0 ⟨#[]⟩ false false 0)
  have HO0 := Lib.hid (rule_one 0 ⟨#[]⟩ false false 0)
  have b0 := build_no
  have b1 := build_k
  clear hl
  go_enter Tryd.func22, Tryd.ntmps22
  go_upto_region 3 with fail
  generalize hW : World.alloc (World.alloc (World.alloc w _) _) _ = w1
  have HP := Lib.hid (show PL w w.heap.size (w.heap.size + 1) (w.heap.size + 1 + 1) w1 by rw [← hW]; exact pl_new w _ _)
  clear hW
  generalize w.heap.size + 1 + 1 = p2 at HP ⊢
  generalize w.heap.size + 1 = p1 at HP ⊢
  go_wp2_with fail
  go_loopw [6] (fun i wr => ∃ k : Nat, k ≤ 7 ∧ i = .int .i64 k ∧ Hid (k ≤ plainF l) ∧ wr = w1) (fun i _ => 7 - (intOf i).toNat)
  case atStart => exact ⟨0, by omega, rfl, Lib.hid (Nat.zero_le _), rfl⟩
  case round =>
    obtain ⟨k, hk, rfl, HK, rfl⟩ := hrel
    by_cases hlt : k < 7
    · have d1 : decide ((k : Int) < 7) = true := decide_eq_true (by omega)
      have hc1 := HP.out.c1 k hlt
      have hc2 := HP.out.c2 k hlt
      obtain ⟨T, hT⟩ : ∃ T : ByteArray, T = ⟨(plainW[k]'hlt).toArray⟩ := ⟨_, rfl⟩
      obtain ⟨n, hn⟩ : ∃ n : Nat, n = plainK[k]'hlt := ⟨_, rfl⟩
      rw [← hT] at hc1
      rw [← hn] at hc2
      by_cases he : plainW[k]'hlt = l
      · have hq : (T.toList == s.toList) = true := by
          rw [ByteArray.toList_eq, ByteArray.toList_eq, HS.out, beq_iff_eq, hT]
          exact he
        have HN := Lib.hid (plainO_at k hlt HK.out he)
        rw [← hn] at HN
        have HC1 := Lib.hid (rule_cs (n : Int) ⟨#[]⟩ false false 0)
        have HO1 := Lib.hid (rule_one (n : Int) ⟨#[]⟩ false false 0)
        clear he hT hn
        go_wp2_with (with_reducible refine wpList_store_row rfl 25 (.tmp 2) (.tmp 25) rfl w.heap.size #[.int .u8 (n : Int), .string ⟨#[]⟩, .bool false, .bool false, .int .u64 0] rfl rfl 25 _ HP.out.h HC1.out rfl HO1.out ?_)
        exact bodyPost_ret (results_cell_slot rfl _ _ w.heap.size 25 #[.int .u8 (n : Int), .string ⟨#[]⟩, .bool false, .bool false, .int .u64 0] (0, 0) _ (.bool true) rfl (setRow_heap _ w.heap.size _ _ _ _ HP.out.h) Tryd.underlying25 rfl HC1.out rfl) rfl ⟨ans_of HN.out rfl rfl rfl rfl rfl, below_setRow HP.out.b (Nat.le_refl _) _⟩
      · have hq : (T.toList == s.toList) = false := by
          rw [ByteArray.toList_eq, ByteArray.toList_eq, HS.out, beq_eq_false_iff_ne, hT]
          exact he
        have HK2 := Lib.hid (plain_next k hlt HK.out he)
        clear he hT hn
        go_wp2_with fail
        go_roundw
        case rel => exact ⟨k + 1, by omega, by go_num, HK2, True.intro⟩
        case measure => simp [intOf]; omega
    · have d1 : decide ((k : Int) < 7) = false := decide_eq_false (by omega)
      have HN := Lib.hid (plainO_none (l := l) (by have := HK.out; omega))
      go_wp2_with (with_reducible refine wpList_store_row rfl 25 (.tmp 2) (.tmp 26) rfl w.heap.size #[.int .u8 0, .string ⟨#[]⟩, .bool false, .bool false, .int .u64 0] rfl rfl 25 _ HP.out.h HC0.out rfl HO0.out ?_)
      exact bodyPost_ret (results_cell_slot rfl _ _ w.heap.size 25 #[.int .u8 0, .string ⟨#[]⟩, .bool false, .bool false, .int .u64 0] (0, 0) _ (.bool false) rfl (setRow_heap _ w.heap.size _ _ _ _ HP.out.h) Tryd.underlying25 rfl HC0.out rfl) rfl ⟨ans_no HN.out, below_setRow HP.out.b (Nat.le_refl _) _⟩

theorem mask_at {l R : List UInt8} (h : l.take 1 = [64]) (hR : R = l.drop 1) : (maskD l).getD 0 = catV R ∧ (maskD l).isSome = catB R := by
  subst hR
  unfold maskD
  rw [if_pos h]
  cases hb : catB (l.drop 1) with
  | true => exact ⟨rfl, rfl⟩
  | false =>
    have := catV_none (s := l.drop 1) (by unfold catB at hb; simpa using hb)
    exact ⟨this.1.symm, rfl⟩
theorem mask_none {l : List UInt8} (h : l.take 1 ≠ [64]) (h2 : ¬ (findB (lowL l) = true ∧ lowL l = l)) : (maskD l).getD 0 = 0 ∧ (maskD l).isSome = false := by
  unfold maskD
  rw [if_neg h, if_neg h2]
  exact ⟨rfl, rfl⟩
theorem mask_some {l : List UInt8} (h : l.take 1 ≠ [64]) (h2 : findB (lowL l) = true ∧ lowL l = l) (id : Nat) (hi : findV (lowL l) = (id : Int)) : (maskD l).getD 0 = 2 ^ id ∧ (maskD l).isSome = true := by
  unfold maskD
  rw [if_neg h, if_pos h2, hi]
  exact ⟨rfl, rfl⟩
theorem find_id {l : List UInt8} (h : findB l = true) : ∃ id : Nat, id < 56 ∧ findV l = (id : Int) := by
  unfold findB at h
  have h := of_decide_eq_true h
  exact ⟨findK l, h, by unfold findV; rw [if_pos h]⟩
theorem shl_one (j : Nat) (hj : j < 56) : IntKind.u64.wrap (2 ^ j) = ((2 ^ j : Nat) : Int) := by
  have h1 : 2 ^ j ≤ 2 ^ 55 := Nat.pow_le_pow_right (by decide) (by omega)
  have e : (2 : Int) ^ j = ((2 ^ j : Nat) : Int) := by rw [Int.natCast_pow]; rfl
  rw [e]
  obtain ⟨P, hP⟩ : ∃ P, P = 2 ^ j := ⟨_, rfl⟩
  rw [← hP] at h1 ⊢
  have e55 : (2 : Nat) ^ 55 = 36028797018963968 := by decide
  rw [e55] at h1
  rw [IntKind.wrap_u64]
  omega
theorem ret_mb {a a' : Int} {b b' : Bool} (h : a = a') (h' : b = b') : Ending.returned (.tuple #[.int .u64 a, .bool b]) = .returned (.tuple #[.int .u64 a', .bool b']) := by rw [h, h']
set_option maxHeartbeats 2000000 in
theorem mask_any (s : ByteArray) (w : World) (hz : s.size ≤ 1048576) :
    Calls Tryd.prog 24 #[.string s] w fun e w' => e = .returned (.tuple #[.int .u64 (((maskD s.data.toList).getD 0 : Nat) : Int), .bool (maskD s.data.toList).isSome]) ∧ Below w.heap.size w w' := by
  by_cases h : s.data.toList.take 1 = [64]
  · obtain ⟨R, hR⟩ : ∃ R : ByteArray, R = ⟨(s.data.toList.drop 1).toArray⟩ := ⟨_, rfl⟩
    have C := Lib.hid (begins_yes s ⟨#[64]⟩ R w h hR hz (by decide))
    have hRd : R.data.toList = s.data.toList.drop 1 := by rw [hR]
    obtain ⟨e1, e2⟩ := mask_at h hRd
    have CC := Lib.hid (RefTab.cat_any R w)
    rw [← e1, ← e2] at CC
    clear h hR hRd e1 e2
    obtain ⟨m, hm⟩ : ∃ m : Int, m = (((maskD s.data.toList).getD 0 : Nat) : Int) := ⟨_, rfl⟩
    obtain ⟨b, hb⟩ : ∃ b, b = (maskD s.data.toList).isSome := ⟨_, rfl⟩
    rw [← hm, ← hb] at CC ⊢
    clear hm hb
    go_enter Tryd.func24, Tryd.ntmps24
    go_wp2_with fail
    refine C.out.mono ?_
    rintro e w1 ⟨rfl, rfl⟩
    go_wp2_with fail
    refine CC.out.mono ?_
    rintro e w2 ⟨rfl, hb2⟩
    go_wp2_with fail
    go_ret2
    exact ⟨rfl, hb2⟩
  · have C := Lib.hid (begins_no s ⟨#[64]⟩ w h hz (by decide))
    have CF := Lib.hid (RefTab.find_any s w (by omega))
    by_cases hf : findB (lowL s.data.toList) = true
    · obtain ⟨id, hid, hv⟩ := find_id hf
      rw [hf, hv] at CF
      obtain ⟨T, hT⟩ : ∃ T : ByteArray, T = ⟨(lowL s.data.toList).toArray⟩ := ⟨_, rfl⟩
      have CL := Lib.hid (fun W => (hT ▸ LowR.lower_ref s W (by omega) (by omega) : Calls Tryd.prog 38 #[.string s] W fun e w' => e = .returned (.string T) ∧ Below W.heap.size W w'))
      by_cases hsm : lowL s.data.toList = s.data.toList
      · have hTs : T = s := by rw [hT, hsm]
        obtain ⟨e1, e2⟩ := mask_some h ⟨hf, hsm⟩ id hv
        rw [e1, e2]
        have HW := Lib.hid (shl_one id hid)
        have HI := hid
        subst hTs
        have hq : (T.toList != T.toList) = false := bne_self_eq_false _
        clear hf hv hsm hT h e1 e2
        go_enter Tryd.func24, Tryd.ntmps24
        go_wp2_with fail
        refine C.out.mono ?_
        rintro e w1 ⟨rfl, rfl⟩
        go_wp2_with fail
        refine CF.out.mono ?_
        rintro e w2 ⟨rfl, hb2⟩
        go_wp2_with fail
        refine (CL.out _).mono ?_
        rintro e w3 ⟨rfl, hb3⟩
        go_wp2_with fail
        go_ret2
        exact ⟨ret_mb HW.out rfl, hb2.trans (hb3.mono hb2.size)⟩
      · obtain ⟨e1, e2⟩ := mask_none h (fun hh => hsm hh.2)
        rw [e1, e2]
        have hq : (T.toList == s.toList) = false := by
          rw [ByteArray.toList_eq, ByteArray.toList_eq, beq_eq_false_iff_ne, hT]
          exact hsm
        clear hf hv hsm hT h e1 e2
        go_enter Tryd.func24, Tryd.ntmps24
        go_wp2_with fail
        refine C.out.mono ?_
        rintro e w1 ⟨rfl, rfl⟩
        go_wp2_with fail
        refine CF.out.mono ?_
        rintro e w2 ⟨rfl, hb2⟩
        go_wp2_with fail
        refine (CL.out _).mono ?_
        rintro e w3 ⟨rfl, hb3⟩
        go_wp2_with fail
        go_ret2
        exact ⟨rfl, hb2.trans (hb3.mono hb2.size)⟩
    · obtain ⟨e1, e2⟩ := mask_none h (fun hh => hf hh.1)
      rw [e1, e2]
      have hf' : findB (lowL s.data.toList) = false := by simpa using hf
      rw [hf'] at CF
      clear hf hf' h e1 e2
      go_enter Tryd.func24, Tryd.ntmps24
      go_wp2_with fail
      refine C.out.mono ?_
      rintro e w1 ⟨rfl, rfl⟩
      go_wp2_with fail
      refine CF.out.mono ?_
      rintro e w2 ⟨rfl, hb2⟩
      go_wp2_with fail
      go_ret2
      exact ⟨rfl, hb2⟩

end Go.Proofs.YtdhhiodnnnfioaaDoor.RefRule
namespace Go.Proofs.YtdhhiodnnnfioaaDoor.RefRule
open Go.RowKit Kit TableMath Low StrT RuleT
open Go.Sort (grow)
set_option linter.unusedVariables false
set_option maxRecDepth 100000

/-- The world of the loop: the room for the answer, the marks. -/
structure ML (w : World) (g b1 : Nat) (w1 : World) : Prop where
  b : Below w.heap.size w w1
  h : w1.heap[g]? = some (.cells #[.int .u8 0, .string ⟨#[]⟩, .bool false, .bool false, .int .u64 0] 25 (0, 0))
  c1 : ∀ k (h : k < 10), w1.cell? ⟨b1, k, none⟩ = some (.string ⟨(marks[k]'h).toArray⟩)
  l0 : g < w1.heap.size
  l1 : b1 < w1.heap.size
theorem ML.keep {w w1 w2 : World} {g b1 : Nat} (h : ML w g b1 w1) (hb : Below w1.heap.size w1 w2) : ML w g b1 w2 :=
  ⟨h.b.trans (hb.mono h.b.size), by rw [hb.block _ h.l0]; exact h.h, fun k hk => by rw [hb.cell (p := ⟨b1, k, none⟩) h.l1]; exact h.c1 k hk, Nat.lt_of_lt_of_le h.l0 hb.size, Nat.lt_of_lt_of_le h.l1 hb.size⟩
theorem ML.drewN {w w1 : World} {g b1 : Nat} (h : ML w g b1 w1) (q : Nat) : ML w g b1 (w1.drewN q) :=
  h.keep ⟨rfl, rfl, rfl, Nat.le_refl _, fun _ _ => rfl⟩
def marksV : Array Value := (marks.map fun l => Value.string ⟨l.toArray⟩).toArray
theorem ml_new (w0 w : World) (g : Nat) (t1 : TypeId) (hb : Below w0.heap.size w0 w) (hg : g < w.heap.size) (h : w.heap[g]? = some (.cells #[.int .u8 0, .string ⟨#[]⟩, .bool false, .bool false, .int .u64 0] 25 (0, 0))) : ML w0 g w.heap.size (w.alloc (.cells marksV t1)) := by
  have h1 := heap_alloc_last w (.cells marksV t1)
  refine ⟨hb.alloc hb.size _, ?_, fun k hk => ?_, by simp; omega, by simp⟩
  · rw [(Kit.below1 w (.cells marksV t1)).block g hg]
    exact h
  · rw [cell_of_row _ _ _ _ _ _ h1]
    match k, hk with
    | 0, _ => rfl
    | 1, _ => rfl
    | 2, _ => rfl
    | 3, _ => rfl
    | 4, _ => rfl
    | 5, _ => rfl
    | 6, _ => rfl
    | 7, _ => rfl
    | 8, _ => rfl
    | 9, _ => rfl
    | k + 10, hk => exact absurd hk (by omega)
theorem none_of {o : Option RV} {k : Nat} {l : List UInt8} (h : o = markD k l) (h2 : markD k l = none) : o = none := h.trans h2
theorem hash_no {l : List UInt8} (k : Nat) (hk : k = 1 ∨ k = 2) (h : MacM.rightB l = false) : markD k l = none := by
  rcases hk with rfl | rfl <;> exact if_neg (by rw [h]; exact Bool.false_ne_true)
theorem hash_yes {l : List UInt8} (h : MacM.rightB l = true) : markD 1 l = some ⟨6, l, false, false, 0⟩ ∧ markD 2 l = some ⟨7, l, false, false, 0⟩ := ⟨if_pos h, if_pos h⟩
theorem mask_no {l : List UInt8} (k : Nat) (hk : k = 3 ∨ k = 4) (h : (maskD l).isSome = false) : markD k l = none := by
  have : maskD l = none := by simpa using h
  rcases hk with rfl | rfl <;> (show (maskD l).map _ = none; rw [this]; rfl)
theorem mask_yes {l : List UInt8} (h : (maskD l).isSome = true) : markD 3 l = some ⟨8, [], false, false, (maskD l).getD 0⟩ ∧ markD 4 l = some ⟨9, [], false, false, (maskD l).getD 0⟩ := by
  obtain ⟨m, hm⟩ := Option.isSome_iff_exists.1 h
  refine ⟨?_, ?_⟩ <;> (show (maskD l).map _ = _; rw [hm]; rfl)

set_option maxHeartbeats 4000000 in
theorem parse_any (s : ByteArray) (w : World) (hz : s.size ≤ 1048000) :
    Calls Tryd.prog 9 #[.string s] w fun e w' => ansR (ruleD s.data.toList) e ∧ Below w.heap.size w w' := by
  have e0 : ruleD s.data.toList = ruleO (otherD s.data.toList) := rfl
  rw [e0]
  obtain ⟨T, hT⟩ : ∃ T : ByteArray, T = ⟨(otherD s.data.toList).toArray⟩ := ⟨_, rfl⟩
  have hTd : T.data.toList = otherD s.data.toList := by rw [hT]
  have CO := Lib.hid (fun W => other_any s T W hTd)
  have hTz : T.size ≤ 1048576 := by
    have : (otherD s.data.toList).length = T.size := by rw [← hTd]; exact size_l
    have h2 : (otherD s.data.toList).length ≤ s.size + 5 := by
      have := size_l (s := s)
      unfold otherD
      split
      · simp
      · split
        · simp
        · split
          · simp
          · split
            · simp
            · omega
    omega
  rw [← hTd]
  clear hT hTd e0 hz
  obtain ⟨l, hl⟩ : ∃ l, l = T.data.toList := ⟨_, rfl⟩
  have HS := Lib.hid hl.symm
  rw [← hl]
  have CPl := Lib.hid (fun W => plain_any T W)
  rw [← hl] at CPl
  clear hl
  have b0 := build_no
  have b1 := build_ks
  have b2 := build_km
  go_enter Tryd.func9, Tryd.ntmps9
  go_wp2_with fail
  refine (CO.out _).mono ?_
  rintro e w' ⟨rfl, rfl⟩
  have h0 := heap_alloc_last w (.cells #[.int .u8 0, .string ⟨#[]⟩, .bool false, .bool false, .int .u64 0] 25)
  have hb0 := Kit.below1 w (.cells #[.int .u8 0, .string ⟨#[]⟩, .bool false, .bool false, .int .u64 0] 25)
  have hs0 : w.heap.size < (w.alloc (.cells #[.int .u8 0, .string ⟨#[]⟩, .bool false, .bool false, .int .u64 0] 25)).heap.size := by simp
  have HQ0 := Lib.hid (And.intro h0 (And.intro hb0 hs0))
  clear h0 hb0 hs0
  go_wp2_with fail
  refine (CPl.out _).mono ?_
  rintro e w1 ⟨he, hb1⟩
  have HQ1 := Lib.hid (show w1.heap[w.heap.size]? = some (.cells #[.int .u8 0, .string ⟨#[]⟩, .bool false, .bool false, .int .u64 0] 25 (0, 0)) ∧ Below w.heap.size w w1 ∧ w.heap.size < w1.heap.size from ⟨by rw [hb1.block _ HQ0.out.2.2]; exact HQ0.out.1, HQ0.out.2.1.trans (hb1.mono HQ0.out.2.1.size), Nat.lt_of_lt_of_le HQ0.out.2.2 hb1.size⟩)
  clear hb1 HQ0
  rcases hp : plainD l with _ | n
  · have e1 : plainO l = none := by unfold plainO; rw [hp]; rfl
    rw [e1] at he
    have he2 : e = .returned (.tuple #[.agg #[.int .u8 0, .string ⟨#[]⟩, .bool false, .bool false, .int .u64 0], .bool false]) := he
    subst he2
    have HPn := Lib.hid hp
    clear he hp e1
    have HM := Lib.hid (fun t => ml_new w (w1.alloc (.cells #[.int .u8 0, .string ⟨#[]⟩, .bool false, .bool false, .int .u64 0] 25)) w.heap.size t (HQ1.out.2.1.trans ((Kit.below1 w1 _).mono HQ1.out.2.1.size)) (by simp; have := HQ1.out.2.2; omega) (by rw [(Kit.below1 w1 (.cells #[.int .u8 0, .string ⟨#[]⟩, .bool false, .bool false, .int .u64 0] 25)).block _ HQ1.out.2.2]; exact HQ1.out.1))
    go_upto_region 6 with fail
    generalize hW : World.alloc (World.alloc w1 _) _ = w2
    have HP := Lib.hid (show ML w w.heap.size (w1.heap.size + 1) w2 by
      rw [← hW]
      have h := HM.out 9
      simp only [World.alloc, Array.size_push] at h ⊢
      exact h)
    clear hW HM HQ1
    generalize w1.heap.size + 1 = p1 at HP ⊢
    go_wp2_with fail
    go_loopw [8] (fun i wr => ∃ k : Nat, k ≤ 10 ∧ i = .int .i64 k ∧ Hid (k ≤ markF l) ∧ wr = w2) (fun i _ => 10 - (intOf i).toNat)
    case atStart => exact ⟨0, by omega, rfl, Lib.hid (Nat.zero_le _), rfl⟩
    case round =>
      obtain ⟨k, hk, hi, HK, rfl⟩ := hrel
      by_cases hlt : k < 10
      · by_cases hpre : l.take (marks[k]'hlt).length = marks[k]'hlt
        · have HN := Lib.hid (rule_mark k hlt HPn.out (mark_at k hlt HK.out hpre))
          clear HK hk
          have hk10 : k = 0 ∨ k = 1 ∨ k = 2 ∨ k = 3 ∨ k = 4 ∨ k = 5 ∨ k = 6 ∨ k = 7 ∨ k = 8 ∨ k = 9 := by omega
          rcases hk10 with rfl | rfl | rfl | rfl | rfl | rfl | rfl | rfl | rfl | rfl
          · obtain rfl : u8 = .int .i64 0 := hi
            obtain ⟨M, hM⟩ : ∃ M : ByteArray, M = ⟨#[62]⟩ := ⟨_, rfl⟩
            have hMd : M.data.toList = [62] := by rw [hM]
            obtain ⟨R, hR⟩ : ∃ R : ByteArray, R = ⟨(l.drop 1).toArray⟩ := ⟨_, rfl⟩
            have hRd : l.drop 1 = R.data.toList := by rw [hR]
            have HN2 := Lib.hid (show ruleO l = markD 0 R.data.toList from HN.out.trans (congrArg (markD 0) hRd))
            have hRz : R.size ≤ 1048576 := by
              have h1 : R.data.toList.length = R.size := size_l
              have h2 : l.length = T.size := by rw [← HS.out]; exact size_l
              rw [← hRd, List.length_drop] at h1
              omega
            have hMs : M.size = 1 := by rw [hM]; rfl
            have CB := Lib.hid (fun W => begins_yes T M R W (by rw [HS.out, hMs, hMd]; exact hpre) (by rw [HS.out, hMs]; exact hR) hTz (by omega))
            have hc : wr.cell? ⟨p1, 0, none⟩ = some (.string M) := by rw [hM]; exact HP.out.c1 0 (by decide)
            have q0 := eq_str M [62] [62] hMd
            rw [show decide (([62] : List UInt8) = [62]) = true by decide] at q0
            have q1 := eq_str M [62] [35] hMd
            rw [show decide (([62] : List UInt8) = [35]) = false by decide] at q1
            have q2 := eq_str M [62] [33] hMd
            rw [show decide (([62] : List UInt8) = [33]) = false by decide] at q2
            have q3 := eq_str M [62] [43] hMd
            rw [show decide (([62] : List UInt8) = [43]) = false by decide] at q3
            have q4 := eq_str M [62] [45] hMd
            rw [show decide (([62] : List UInt8) = [45]) = false by decide] at q4
            have q5 := eq_str M [62] [38] hMd
            rw [show decide (([62] : List UInt8) = [38]) = false by decide] at q5
            have q6 := eq_str M [62] [37, 87, 126] hMd
            rw [show decide (([62] : List UInt8) = [37, 87, 126]) = false by decide] at q6
            have q7 := eq_str M [62] [37, 82, 126] hMd
            rw [show decide (([62] : List UInt8) = [37, 82, 126]) = false by decide] at q7
            clear hM hMd hR hRd hMs hpre HN hlt
            go_wp2_with fail
            refine (CB.out _).mono ?_
            rintro e w' ⟨rfl, rfl⟩
            clear CB
            go_wp2_with (with_reducible refine wpList_store_row rfl 25 (.tmp 2) (.tmp 48) rfl w.heap.size #[.int .u8 5, .string R, .bool false, .bool false, .int .u64 0] rfl rfl 25 _ HP.out.h (rule_cs 5 R false false 0) rfl (rule_one 5 R false false 0) ?_)
            exact bodyPost_ret (results_cell_slot rfl _ _ w.heap.size 25 #[.int .u8 5, .string R, .bool false, .bool false, .int .u64 0] (0, 0) _ (.bool true) rfl (setRow_heap _ w.heap.size _ _ _ _ HP.out.h) Tryd.underlying25 rfl (rule_cs 5 R false false 0) rfl) rfl ⟨ans_of HN2.out rfl (str_of rfl) rfl rfl rfl, below_setRow HP.out.b (Nat.le_refl _) _⟩
          · obtain rfl : u8 = .int .i64 1 := hi
            obtain ⟨M, hM⟩ : ∃ M : ByteArray, M = ⟨#[35]⟩ := ⟨_, rfl⟩
            have hMd : M.data.toList = [35] := by rw [hM]
            obtain ⟨R, hR⟩ : ∃ R : ByteArray, R = ⟨(l.drop 1).toArray⟩ := ⟨_, rfl⟩
            have hRd : l.drop 1 = R.data.toList := by rw [hR]
            have HN2 := Lib.hid (show ruleO l = markD 1 R.data.toList from HN.out.trans (congrArg (markD 1) hRd))
            have hRz : R.size ≤ 1048576 := by
              have h1 : R.data.toList.length = R.size := size_l
              have h2 : l.length = T.size := by rw [← HS.out]; exact size_l
              rw [← hRd, List.length_drop] at h1
              omega
            have hMs : M.size = 1 := by rw [hM]; rfl
            have CB := Lib.hid (fun W => begins_yes T M R W (by rw [HS.out, hMs, hMd]; exact hpre) (by rw [HS.out, hMs]; exact hR) hTz (by omega))
            have hc : wr.cell? ⟨p1, 1, none⟩ = some (.string M) := by rw [hM]; exact HP.out.c1 1 (by decide)
            have q0 := eq_str M [35] [62] hMd
            rw [show decide (([35] : List UInt8) = [62]) = false by decide] at q0
            have q1 := eq_str M [35] [35] hMd
            rw [show decide (([35] : List UInt8) = [35]) = true by decide] at q1
            have q2 := eq_str M [35] [33] hMd
            rw [show decide (([35] : List UInt8) = [33]) = false by decide] at q2
            have q3 := eq_str M [35] [43] hMd
            rw [show decide (([35] : List UInt8) = [43]) = false by decide] at q3
            have q4 := eq_str M [35] [45] hMd
            rw [show decide (([35] : List UInt8) = [45]) = false by decide] at q4
            have q5 := eq_str M [35] [38] hMd
            rw [show decide (([35] : List UInt8) = [38]) = false by decide] at q5
            have q6 := eq_str M [35] [37, 87, 126] hMd
            rw [show decide (([35] : List UInt8) = [37, 87, 126]) = false by decide] at q6
            have q7 := eq_str M [35] [37, 82, 126] hMd
            rw [show decide (([35] : List UInt8) = [37, 82, 126]) = false by decide] at q7
            clear hM hMd hR hRd hMs hpre HN hlt
            go_wp2_with fail
            refine (CB.out _).mono ?_
            rintro e w' ⟨rfl, rfl⟩
            clear CB
            have CR := Lib.hid (fun W => RefM.rright_any R W hRz)
            rcases hb : MacM.rightB R.data.toList with _ | _
            · rw [hb] at CR
              have HN3 := Lib.hid (HN2.out.trans (hash_no 1 (by decide) hb))
              clear hb
              go_wp2_with fail
              refine (CR.out _).mono ?_
              rintro e w3 ⟨rfl, hb3⟩
              have HP3 := Lib.hid (HP.out.keep hb3)
              clear hb3
              go_wp2_with (with_reducible refine wpList_store_row rfl 25 (.tmp 2) (.tmp 56) rfl w.heap.size #[.int .u8 0, .string ⟨#[]⟩, .bool false, .bool false, .int .u64 0] rfl rfl 25 _ HP3.out.h (rule_cs 0 ⟨#[]⟩ false false 0) rfl (rule_one 0 ⟨#[]⟩ false false 0) ?_)
              exact bodyPost_ret (results_cell_slot rfl _ _ w.heap.size 25 #[.int .u8 0, .string ⟨#[]⟩, .bool false, .bool false, .int .u64 0] (0, 0) _ (.bool false) rfl (setRow_heap _ w.heap.size _ _ _ _ HP3.out.h) Tryd.underlying25 rfl (rule_cs 0 ⟨#[]⟩ false false 0) rfl) rfl ⟨ans_no HN3.out, below_setRow HP3.out.b (Nat.le_refl _) _⟩
            · rw [hb] at CR
              have HN3 := Lib.hid (HN2.out.trans (hash_yes hb).1)
              clear hb
              go_wp2_with fail
              refine (CR.out _).mono ?_
              rintro e w3 ⟨rfl, hb3⟩
              have HP3 := Lib.hid (HP.out.keep hb3)
              have hc3 : w3.cell? ⟨p1, 1, none⟩ = some (.string M) := by rw [hb3.cell (p := ⟨p1, 1, none⟩) HP.out.l1]; exact hc
              clear hb3 hc
              go_wp2_with (with_reducible refine wpList_store_row rfl 25 (.tmp 2) (.tmp 63) rfl w.heap.size #[.int .u8 6, .string R, .bool false, .bool false, .int .u64 0] rfl rfl 25 _ HP3.out.h (rule_cs 6 R false false 0) rfl (rule_one 6 R false false 0) ?_)
              exact bodyPost_ret (results_cell_slot rfl _ _ w.heap.size 25 #[.int .u8 6, .string R, .bool false, .bool false, .int .u64 0] (0, 0) _ (.bool true) rfl (setRow_heap _ w.heap.size _ _ _ _ HP3.out.h) Tryd.underlying25 rfl (rule_cs 6 R false false 0) rfl) rfl ⟨ans_of HN3.out rfl (str_of rfl) rfl rfl rfl, below_setRow HP3.out.b (Nat.le_refl _) _⟩
          · obtain rfl : u8 = .int .i64 2 := hi
            obtain ⟨M, hM⟩ : ∃ M : ByteArray, M = ⟨#[33]⟩ := ⟨_, rfl⟩
            have hMd : M.data.toList = [33] := by rw [hM]
            obtain ⟨R, hR⟩ : ∃ R : ByteArray, R = ⟨(l.drop 1).toArray⟩ := ⟨_, rfl⟩
            have hRd : l.drop 1 = R.data.toList := by rw [hR]
            have HN2 := Lib.hid (show ruleO l = markD 2 R.data.toList from HN.out.trans (congrArg (markD 2) hRd))
            have hRz : R.size ≤ 1048576 := by
              have h1 : R.data.toList.length = R.size := size_l
              have h2 : l.length = T.size := by rw [← HS.out]; exact size_l
              rw [← hRd, List.length_drop] at h1
              omega
            have hMs : M.size = 1 := by rw [hM]; rfl
            have CB := Lib.hid (fun W => begins_yes T M R W (by rw [HS.out, hMs, hMd]; exact hpre) (by rw [HS.out, hMs]; exact hR) hTz (by omega))
            have hc : wr.cell? ⟨p1, 2, none⟩ = some (.string M) := by rw [hM]; exact HP.out.c1 2 (by decide)
            have q0 := eq_str M [33] [62] hMd
            rw [show decide (([33] : List UInt8) = [62]) = false by decide] at q0
            have q1 := eq_str M [33] [35] hMd
            rw [show decide (([33] : List UInt8) = [35]) = false by decide] at q1
            have q2 := eq_str M [33] [33] hMd
            rw [show decide (([33] : List UInt8) = [33]) = true by decide] at q2
            have q3 := eq_str M [33] [43] hMd
            rw [show decide (([33] : List UInt8) = [43]) = false by decide] at q3
            have q4 := eq_str M [33] [45] hMd
            rw [show decide (([33] : List UInt8) = [45]) = false by decide] at q4
            have q5 := eq_str M [33] [38] hMd
            rw [show decide (([33] : List UInt8) = [38]) = false by decide] at q5
            have q6 := eq_str M [33] [37, 87, 126] hMd
            rw [show decide (([33] : List UInt8) = [37, 87, 126]) = false by decide] at q6
            have q7 := eq_str M [33] [37, 82, 126] hMd
            rw [show decide (([33] : List UInt8) = [37, 82, 126]) = false by decide] at q7
            clear hM hMd hR hRd hMs hpre HN hlt
            go_wp2_with fail
            refine (CB.out _).mono ?_
            rintro e w' ⟨rfl, rfl⟩
            clear CB
            have CR := Lib.hid (fun W => RefM.rright_any R W hRz)
            rcases hb : MacM.rightB R.data.toList with _ | _
            · rw [hb] at CR
              have HN3 := Lib.hid (HN2.out.trans (hash_no 2 (by decide) hb))
              clear hb
              go_wp2_with fail
              refine (CR.out _).mono ?_
              rintro e w3 ⟨rfl, hb3⟩
              have HP3 := Lib.hid (HP.out.keep hb3)
              clear hb3
              go_wp2_with (with_reducible refine wpList_store_row rfl 25 (.tmp 2) (.tmp 56) rfl w.heap.size #[.int .u8 0, .string ⟨#[]⟩, .bool false, .bool false, .int .u64 0] rfl rfl 25 _ HP3.out.h (rule_cs 0 ⟨#[]⟩ false false 0) rfl (rule_one 0 ⟨#[]⟩ false false 0) ?_)
              exact bodyPost_ret (results_cell_slot rfl _ _ w.heap.size 25 #[.int .u8 0, .string ⟨#[]⟩, .bool false, .bool false, .int .u64 0] (0, 0) _ (.bool false) rfl (setRow_heap _ w.heap.size _ _ _ _ HP3.out.h) Tryd.underlying25 rfl (rule_cs 0 ⟨#[]⟩ false false 0) rfl) rfl ⟨ans_no HN3.out, below_setRow HP3.out.b (Nat.le_refl _) _⟩
            · rw [hb] at CR
              have HN3 := Lib.hid (HN2.out.trans (hash_yes hb).2)
              clear hb
              go_wp2_with fail
              refine (CR.out _).mono ?_
              rintro e w3 ⟨rfl, hb3⟩
              have HP3 := Lib.hid (HP.out.keep hb3)
              have hc3 : w3.cell? ⟨p1, 2, none⟩ = some (.string M) := by rw [hb3.cell (p := ⟨p1, 2, none⟩) HP.out.l1]; exact hc
              clear hb3 hc
              go_wp2_with (with_reducible refine wpList_store_row rfl 25 (.tmp 2) (.tmp 65) rfl w.heap.size #[.int .u8 7, .string R, .bool false, .bool false, .int .u64 0] rfl rfl 25 _ HP3.out.h (rule_cs 7 R false false 0) rfl (rule_one 7 R false false 0) ?_)
              exact bodyPost_ret (results_cell_slot rfl _ _ w.heap.size 25 #[.int .u8 7, .string R, .bool false, .bool false, .int .u64 0] (0, 0) _ (.bool true) rfl (setRow_heap _ w.heap.size _ _ _ _ HP3.out.h) Tryd.underlying25 rfl (rule_cs 7 R false false 0) rfl) rfl ⟨ans_of HN3.out rfl (str_of rfl) rfl rfl rfl, below_setRow HP3.out.b (Nat.le_refl _) _⟩
          · obtain rfl : u8 = .int .i64 3 := hi
            obtain ⟨M, hM⟩ : ∃ M : ByteArray, M = ⟨#[43]⟩ := ⟨_, rfl⟩
            have hMd : M.data.toList = [43] := by rw [hM]
            obtain ⟨R, hR⟩ : ∃ R : ByteArray, R = ⟨(l.drop 1).toArray⟩ := ⟨_, rfl⟩
            have hRd : l.drop 1 = R.data.toList := by rw [hR]
            have HN2 := Lib.hid (show ruleO l = markD 3 R.data.toList from HN.out.trans (congrArg (markD 3) hRd))
            have hRz : R.size ≤ 1048576 := by
              have h1 : R.data.toList.length = R.size := size_l
              have h2 : l.length = T.size := by rw [← HS.out]; exact size_l
              rw [← hRd, List.length_drop] at h1
              omega
            have hMs : M.size = 1 := by rw [hM]; rfl
            have CB := Lib.hid (fun W => begins_yes T M R W (by rw [HS.out, hMs, hMd]; exact hpre) (by rw [HS.out, hMs]; exact hR) hTz (by omega))
            have hc : wr.cell? ⟨p1, 3, none⟩ = some (.string M) := by rw [hM]; exact HP.out.c1 3 (by decide)
            have q0 := eq_str M [43] [62] hMd
            rw [show decide (([43] : List UInt8) = [62]) = false by decide] at q0
            have q1 := eq_str M [43] [35] hMd
            rw [show decide (([43] : List UInt8) = [35]) = false by decide] at q1
            have q2 := eq_str M [43] [33] hMd
            rw [show decide (([43] : List UInt8) = [33]) = false by decide] at q2
            have q3 := eq_str M [43] [43] hMd
            rw [show decide (([43] : List UInt8) = [43]) = true by decide] at q3
            have q4 := eq_str M [43] [45] hMd
            rw [show decide (([43] : List UInt8) = [45]) = false by decide] at q4
            have q5 := eq_str M [43] [38] hMd
            rw [show decide (([43] : List UInt8) = [38]) = false by decide] at q5
            have q6 := eq_str M [43] [37, 87, 126] hMd
            rw [show decide (([43] : List UInt8) = [37, 87, 126]) = false by decide] at q6
            have q7 := eq_str M [43] [37, 82, 126] hMd
            rw [show decide (([43] : List UInt8) = [37, 82, 126]) = false by decide] at q7
            clear hM hMd hR hRd hMs hpre HN hlt
            go_wp2_with fail
            refine (CB.out _).mono ?_
            rintro e w' ⟨rfl, rfl⟩
            clear CB
            have CR := Lib.hid (fun W => mask_any R W hRz)
            obtain ⟨m, hm⟩ : ∃ m : Int, m = (((maskD R.data.toList).getD 0 : Nat) : Int) := ⟨_, rfl⟩
            rw [← hm] at CR
            rcases hb : (maskD R.data.toList).isSome with _ | _
            · rw [hb] at CR
              have HN3 := Lib.hid (HN2.out.trans (mask_no 3 (by decide) hb))
              clear hb hm
              go_wp2_with fail
              refine (CR.out _).mono ?_
              rintro e w3 ⟨rfl, hb3⟩
              have HP3 := Lib.hid (HP.out.keep hb3)
              clear hb3
              go_wp2_with (with_reducible refine wpList_store_row rfl 25 (.tmp 2) (.tmp 76) rfl w.heap.size #[.int .u8 0, .string ⟨#[]⟩, .bool false, .bool false, .int .u64 0] rfl rfl 25 _ HP3.out.h (rule_cs 0 ⟨#[]⟩ false false 0) rfl (rule_one 0 ⟨#[]⟩ false false 0) ?_)
              exact bodyPost_ret (results_cell_slot rfl _ _ w.heap.size 25 #[.int .u8 0, .string ⟨#[]⟩, .bool false, .bool false, .int .u64 0] (0, 0) _ (.bool false) rfl (setRow_heap _ w.heap.size _ _ _ _ HP3.out.h) Tryd.underlying25 rfl (rule_cs 0 ⟨#[]⟩ false false 0) rfl) rfl ⟨ans_no HN3.out, below_setRow HP3.out.b (Nat.le_refl _) _⟩
            · rw [hb] at CR
              have HN3 := Lib.hid (HN2.out.trans (mask_yes hb).1)
              have HM3 := Lib.hid hm
              clear hb hm
              go_wp2_with fail
              refine (CR.out _).mono ?_
              rintro e w3 ⟨rfl, hb3⟩
              have HP3 := Lib.hid (HP.out.keep hb3)
              have hc3 : w3.cell? ⟨p1, 3, none⟩ = some (.string M) := by rw [hb3.cell (p := ⟨p1, 3, none⟩) HP.out.l1]; exact hc
              clear hb3 hc
              go_wp2_with (with_reducible refine wpList_store_row rfl 25 (.tmp 2) (.tmp 83) rfl w.heap.size #[.int .u8 8, .string ⟨#[]⟩, .bool false, .bool false, .int .u64 m] rfl rfl 25 _ HP3.out.h (rule_cs 8 ⟨#[]⟩ false false m) rfl (rule_one 8 ⟨#[]⟩ false false m) ?_)
              exact bodyPost_ret (results_cell_slot rfl _ _ w.heap.size 25 #[.int .u8 8, .string ⟨#[]⟩, .bool false, .bool false, .int .u64 m] (0, 0) _ (.bool true) rfl (setRow_heap _ w.heap.size _ _ _ _ HP3.out.h) Tryd.underlying25 rfl (rule_cs 8 ⟨#[]⟩ false false m) rfl) rfl ⟨ans_of HN3.out rfl rfl rfl rfl HM3.out, below_setRow HP3.out.b (Nat.le_refl _) _⟩
          · obtain rfl : u8 = .int .i64 4 := hi
            obtain ⟨M, hM⟩ : ∃ M : ByteArray, M = ⟨#[45]⟩ := ⟨_, rfl⟩
            have hMd : M.data.toList = [45] := by rw [hM]
            obtain ⟨R, hR⟩ : ∃ R : ByteArray, R = ⟨(l.drop 1).toArray⟩ := ⟨_, rfl⟩
            have hRd : l.drop 1 = R.data.toList := by rw [hR]
            have HN2 := Lib.hid (show ruleO l = markD 4 R.data.toList from HN.out.trans (congrArg (markD 4) hRd))
            have hRz : R.size ≤ 1048576 := by
              have h1 : R.data.toList.length = R.size := size_l
              have h2 : l.length = T.size := by rw [← HS.out]; exact size_l
              rw [← hRd, List.length_drop] at h1
              omega
            have hMs : M.size = 1 := by rw [hM]; rfl
            have CB := Lib.hid (fun W => begins_yes T M R W (by rw [HS.out, hMs, hMd]; exact hpre) (by rw [HS.out, hMs]; exact hR) hTz (by omega))
            have hc : wr.cell? ⟨p1, 4, none⟩ = some (.string M) := by rw [hM]; exact HP.out.c1 4 (by decide)
            have q0 := eq_str M [45] [62] hMd
            rw [show decide (([45] : List UInt8) = [62]) = false by decide] at q0
            have q1 := eq_str M [45] [35] hMd
            rw [show decide (([45] : List UInt8) = [35]) = false by decide] at q1
            have q2 := eq_str M [45] [33] hMd
            rw [show decide (([45] : List UInt8) = [33]) = false by decide] at q2
            have q3 := eq_str M [45] [43] hMd
            rw [show decide (([45] : List UInt8) = [43]) = false by decide] at q3
            have q4 := eq_str M [45] [45] hMd
            rw [show decide (([45] : List UInt8) = [45]) = true by decide] at q4
            have q5 := eq_str M [45] [38] hMd
            rw [show decide (([45] : List UInt8) = [38]) = false by decide] at q5
            have q6 := eq_str M [45] [37, 87, 126] hMd
            rw [show decide (([45] : List UInt8) = [37, 87, 126]) = false by decide] at q6
            have q7 := eq_str M [45] [37, 82, 126] hMd
            rw [show decide (([45] : List UInt8) = [37, 82, 126]) = false by decide] at q7
            clear hM hMd hR hRd hMs hpre HN hlt
            go_wp2_with fail
            refine (CB.out _).mono ?_
            rintro e w' ⟨rfl, rfl⟩
            clear CB
            have CR := Lib.hid (fun W => mask_any R W hRz)
            obtain ⟨m, hm⟩ : ∃ m : Int, m = (((maskD R.data.toList).getD 0 : Nat) : Int) := ⟨_, rfl⟩
            rw [← hm] at CR
            rcases hb : (maskD R.data.toList).isSome with _ | _
            · rw [hb] at CR
              have HN3 := Lib.hid (HN2.out.trans (mask_no 4 (by decide) hb))
              clear hb hm
              go_wp2_with fail
              refine (CR.out _).mono ?_
              rintro e w3 ⟨rfl, hb3⟩
              have HP3 := Lib.hid (HP.out.keep hb3)
              clear hb3
              go_wp2_with (with_reducible refine wpList_store_row rfl 25 (.tmp 2) (.tmp 76) rfl w.heap.size #[.int .u8 0, .string ⟨#[]⟩, .bool false, .bool false, .int .u64 0] rfl rfl 25 _ HP3.out.h (rule_cs 0 ⟨#[]⟩ false false 0) rfl (rule_one 0 ⟨#[]⟩ false false 0) ?_)
              exact bodyPost_ret (results_cell_slot rfl _ _ w.heap.size 25 #[.int .u8 0, .string ⟨#[]⟩, .bool false, .bool false, .int .u64 0] (0, 0) _ (.bool false) rfl (setRow_heap _ w.heap.size _ _ _ _ HP3.out.h) Tryd.underlying25 rfl (rule_cs 0 ⟨#[]⟩ false false 0) rfl) rfl ⟨ans_no HN3.out, below_setRow HP3.out.b (Nat.le_refl _) _⟩
            · rw [hb] at CR
              have HN3 := Lib.hid (HN2.out.trans (mask_yes hb).2)
              have HM3 := Lib.hid hm
              clear hb hm
              go_wp2_with fail
              refine (CR.out _).mono ?_
              rintro e w3 ⟨rfl, hb3⟩
              have HP3 := Lib.hid (HP.out.keep hb3)
              have hc3 : w3.cell? ⟨p1, 4, none⟩ = some (.string M) := by rw [hb3.cell (p := ⟨p1, 4, none⟩) HP.out.l1]; exact hc
              clear hb3 hc
              go_wp2_with (with_reducible refine wpList_store_row rfl 25 (.tmp 2) (.tmp 85) rfl w.heap.size #[.int .u8 9, .string ⟨#[]⟩, .bool false, .bool false, .int .u64 m] rfl rfl 25 _ HP3.out.h (rule_cs 9 ⟨#[]⟩ false false m) rfl (rule_one 9 ⟨#[]⟩ false false m) ?_)
              exact bodyPost_ret (results_cell_slot rfl _ _ w.heap.size 25 #[.int .u8 9, .string ⟨#[]⟩, .bool false, .bool false, .int .u64 m] (0, 0) _ (.bool true) rfl (setRow_heap _ w.heap.size _ _ _ _ HP3.out.h) Tryd.underlying25 rfl (rule_cs 9 ⟨#[]⟩ false false m) rfl) rfl ⟨ans_of HN3.out rfl rfl rfl rfl HM3.out, below_setRow HP3.out.b (Nat.le_refl _) _⟩
          · obtain rfl : u8 = .int .i64 5 := hi
            obtain ⟨M, hM⟩ : ∃ M : ByteArray, M = ⟨#[126]⟩ := ⟨_, rfl⟩
            have hMd : M.data.toList = [126] := by rw [hM]
            obtain ⟨R, hR⟩ : ∃ R : ByteArray, R = ⟨(l.drop 1).toArray⟩ := ⟨_, rfl⟩
            have hRd : l.drop 1 = R.data.toList := by rw [hR]
            have HN2 := Lib.hid (show ruleO l = markD 5 R.data.toList from HN.out.trans (congrArg (markD 5) hRd))
            have hRz : R.size ≤ 1048576 := by
              have h1 : R.data.toList.length = R.size := size_l
              have h2 : l.length = T.size := by rw [← HS.out]; exact size_l
              rw [← hRd, List.length_drop] at h1
              omega
            have hMs : M.size = 1 := by rw [hM]; rfl
            have CB := Lib.hid (fun W => begins_yes T M R W (by rw [HS.out, hMs, hMd]; exact hpre) (by rw [HS.out, hMs]; exact hR) hTz (by omega))
            have hc : wr.cell? ⟨p1, 5, none⟩ = some (.string M) := by rw [hM]; exact HP.out.c1 5 (by decide)
            have q0 := eq_str M [126] [62] hMd
            rw [show decide (([126] : List UInt8) = [62]) = false by decide] at q0
            have q1 := eq_str M [126] [35] hMd
            rw [show decide (([126] : List UInt8) = [35]) = false by decide] at q1
            have q2 := eq_str M [126] [33] hMd
            rw [show decide (([126] : List UInt8) = [33]) = false by decide] at q2
            have q3 := eq_str M [126] [43] hMd
            rw [show decide (([126] : List UInt8) = [43]) = false by decide] at q3
            have q4 := eq_str M [126] [45] hMd
            rw [show decide (([126] : List UInt8) = [45]) = false by decide] at q4
            have q5 := eq_str M [126] [38] hMd
            rw [show decide (([126] : List UInt8) = [38]) = false by decide] at q5
            have q6 := eq_str M [126] [37, 87, 126] hMd
            rw [show decide (([126] : List UInt8) = [37, 87, 126]) = false by decide] at q6
            have q7 := eq_str M [126] [37, 82, 126] hMd
            rw [show decide (([126] : List UInt8) = [37, 82, 126]) = false by decide] at q7
            clear hM hMd hR hRd hMs hpre HN hlt
            go_wp2_with fail
            refine (CB.out _).mono ?_
            rintro e w' ⟨rfl, rfl⟩
            clear CB
            obtain ⟨o, ho⟩ : ∃ o, o = patD 10 R.data.toList true true := ⟨_, rfl⟩
            have HN3 := Lib.hid (show ruleO l = o from HN2.out.trans ho.symm)
            obtain ⟨v, hv⟩ : ∃ v, v = o.getD noR := ⟨_, rfl⟩
            obtain ⟨ok, hok⟩ : ∃ ok, ok = o.isSome := ⟨_, rfl⟩
            obtain ⟨vk, hvk⟩ : ∃ x : Int, x = (v.kind : Int) := ⟨_, rfl⟩
            obtain ⟨vs, hvs⟩ : ∃ x : ByteArray, x = ⟨v.s.toArray⟩ := ⟨_, rfl⟩
            obtain ⟨vr, hvr⟩ : ∃ x : Bool, x = v.r := ⟨_, rfl⟩
            obtain ⟨vw, hvw⟩ : ∃ x : Bool, x = v.w := ⟨_, rfl⟩
            obtain ⟨vm, hvm⟩ : ∃ x : Int, x = (v.mask : Int) := ⟨_, rfl⟩
            have he : (Ending.returned (.tuple #[(o.getD noR).agg, .bool o.isSome])) = .returned (.tuple #[.agg #[.int .u8 vk, .string vs, .bool vr, .bool vw, .int .u64 vm], .bool ok]) := by rw [hvk, hvs, hvr, hvw, hvm, hv, hok]; rfl
            have CR := Lib.hid (fun W => (show Calls Tryd.prog 25 #[.int .u8 10, .string R, .bool true, .bool true] W (fun e w' => e = .returned (.tuple #[.agg #[.int .u8 vk, .string vs, .bool vr, .bool vw, .int .u64 vm], .bool ok]) ∧ Below W.heap.size W w') from (pattern_any 10 R true true W (by decide) hRz).mono fun e w' h => ⟨by rw [← ho] at h; exact h.1.trans he, h.2⟩))
            have HA := Lib.hid (show ansR (ruleO l) (.returned (.tuple #[.agg #[.int .u8 vk, .string vs, .bool vr, .bool vw, .int .u64 vm], .bool ok])) by rw [HN3.out, ← he]; rfl)
            clear ho hv hok hvk hvs hvr hvw hvm he HN2 HN3
            have CT := Lib.hid (fun dd os => Calls.regrown_of (CR.out (grow (redrawn wr dd) os)))
            have e0 := fun dd os => cell_regrown hc dd os
            clear CR
            go_wp2_with fail
            clear hc
            refine wp_region_quiet_tail_below 14 (by kernel_rfl) (by kernel_rfl) ?_
            simp only [List.take_succ_cons, List.take_zero, List.drop_succ_cons, List.drop_zero]
            repeat (any_goals (go_big_quiet_step ((go_at_call 25; with_reducible exact CT.out _ _))))
            refine wpQuiet_nil ?_
            rintro _ ⟨⟨dq, osq⟩, rfl⟩
            have HP3 := Lib.hid (HP.out.keep (below_regrown wr dq osq))
            clear e0 CT
            generalize grow (redrawn wr dq) osq = w3 at HP3 ⊢
            go_wp2_with (with_reducible refine wpList_store_row rfl 25 (.tmp 2) (.tmp 104) rfl w.heap.size #[.int .u8 vk, .string vs, .bool vr, .bool vw, .int .u64 vm] rfl rfl 25 _ HP3.out.h (rule_cs vk vs vr vw vm) rfl (rule_one vk vs vr vw vm) ?_)
            exact bodyPost_ret (results_cell_slot rfl _ _ w.heap.size 25 #[.int .u8 vk, .string vs, .bool vr, .bool vw, .int .u64 vm] (0, 0) _ (.bool ok) rfl (setRow_heap _ w.heap.size _ _ _ _ HP3.out.h) Tryd.underlying25 rfl (rule_cs vk vs vr vw vm) rfl) rfl ⟨HA.out, below_setRow HP3.out.b (Nat.le_refl _) _⟩
          · obtain rfl : u8 = .int .i64 6 := hi
            obtain ⟨M, hM⟩ : ∃ M : ByteArray, M = ⟨#[37, 82, 126]⟩ := ⟨_, rfl⟩
            have hMd : M.data.toList = [37, 82, 126] := by rw [hM]
            obtain ⟨R, hR⟩ : ∃ R : ByteArray, R = ⟨(l.drop 3).toArray⟩ := ⟨_, rfl⟩
            have hRd : l.drop 3 = R.data.toList := by rw [hR]
            have HN2 := Lib.hid (show ruleO l = markD 6 R.data.toList from HN.out.trans (congrArg (markD 6) hRd))
            have hRz : R.size ≤ 1048576 := by
              have h1 : R.data.toList.length = R.size := size_l
              have h2 : l.length = T.size := by rw [← HS.out]; exact size_l
              rw [← hRd, List.length_drop] at h1
              omega
            have hMs : M.size = 3 := by rw [hM]; rfl
            have CB := Lib.hid (fun W => begins_yes T M R W (by rw [HS.out, hMs, hMd]; exact hpre) (by rw [HS.out, hMs]; exact hR) hTz (by omega))
            have hc : wr.cell? ⟨p1, 6, none⟩ = some (.string M) := by rw [hM]; exact HP.out.c1 6 (by decide)
            have q0 := eq_str M [37, 82, 126] [62] hMd
            rw [show decide (([37, 82, 126] : List UInt8) = [62]) = false by decide] at q0
            have q1 := eq_str M [37, 82, 126] [35] hMd
            rw [show decide (([37, 82, 126] : List UInt8) = [35]) = false by decide] at q1
            have q2 := eq_str M [37, 82, 126] [33] hMd
            rw [show decide (([37, 82, 126] : List UInt8) = [33]) = false by decide] at q2
            have q3 := eq_str M [37, 82, 126] [43] hMd
            rw [show decide (([37, 82, 126] : List UInt8) = [43]) = false by decide] at q3
            have q4 := eq_str M [37, 82, 126] [45] hMd
            rw [show decide (([37, 82, 126] : List UInt8) = [45]) = false by decide] at q4
            have q5 := eq_str M [37, 82, 126] [38] hMd
            rw [show decide (([37, 82, 126] : List UInt8) = [38]) = false by decide] at q5
            have q6 := eq_str M [37, 82, 126] [37, 87, 126] hMd
            rw [show decide (([37, 82, 126] : List UInt8) = [37, 87, 126]) = false by decide] at q6
            have q7 := eq_str M [37, 82, 126] [37, 82, 126] hMd
            rw [show decide (([37, 82, 126] : List UInt8) = [37, 82, 126]) = true by decide] at q7
            clear hM hMd hR hRd hMs hpre HN hlt
            go_wp2_with fail
            refine (CB.out _).mono ?_
            rintro e w' ⟨rfl, rfl⟩
            clear CB
            obtain ⟨o, ho⟩ : ∃ o, o = patD 10 R.data.toList true false := ⟨_, rfl⟩
            have HN3 := Lib.hid (show ruleO l = o from HN2.out.trans ho.symm)
            obtain ⟨v, hv⟩ : ∃ v, v = o.getD noR := ⟨_, rfl⟩
            obtain ⟨ok, hok⟩ : ∃ ok, ok = o.isSome := ⟨_, rfl⟩
            obtain ⟨vk, hvk⟩ : ∃ x : Int, x = (v.kind : Int) := ⟨_, rfl⟩
            obtain ⟨vs, hvs⟩ : ∃ x : ByteArray, x = ⟨v.s.toArray⟩ := ⟨_, rfl⟩
            obtain ⟨vr, hvr⟩ : ∃ x : Bool, x = v.r := ⟨_, rfl⟩
            obtain ⟨vw, hvw⟩ : ∃ x : Bool, x = v.w := ⟨_, rfl⟩
            obtain ⟨vm, hvm⟩ : ∃ x : Int, x = (v.mask : Int) := ⟨_, rfl⟩
            have he : (Ending.returned (.tuple #[(o.getD noR).agg, .bool o.isSome])) = .returned (.tuple #[.agg #[.int .u8 vk, .string vs, .bool vr, .bool vw, .int .u64 vm], .bool ok]) := by rw [hvk, hvs, hvr, hvw, hvm, hv, hok]; rfl
            have CR := Lib.hid (fun W => (show Calls Tryd.prog 25 #[.int .u8 10, .string R, .bool true, .bool false] W (fun e w' => e = .returned (.tuple #[.agg #[.int .u8 vk, .string vs, .bool vr, .bool vw, .int .u64 vm], .bool ok]) ∧ Below W.heap.size W w') from (pattern_any 10 R true false W (by decide) hRz).mono fun e w' h => ⟨by rw [← ho] at h; exact h.1.trans he, h.2⟩))
            have HA := Lib.hid (show ansR (ruleO l) (.returned (.tuple #[.agg #[.int .u8 vk, .string vs, .bool vr, .bool vw, .int .u64 vm], .bool ok])) by rw [HN3.out, ← he]; rfl)
            clear ho hv hok hvk hvs hvr hvw hvm he HN2 HN3
            have CT := Lib.hid (fun dd os => Calls.regrown_of (CR.out (grow (redrawn wr dd) os)))
            have e0 := fun dd os => cell_regrown hc dd os
            clear CR
            go_wp2_with fail
            clear hc
            refine wp_region_quiet_tail_below 14 (by kernel_rfl) (by kernel_rfl) ?_
            simp only [List.take_succ_cons, List.take_zero, List.drop_succ_cons, List.drop_zero]
            repeat (any_goals (go_big_quiet_step ((go_at_call 25; with_reducible exact CT.out _ _))))
            refine wpQuiet_nil ?_
            rintro _ ⟨⟨dq, osq⟩, rfl⟩
            have HP3 := Lib.hid (HP.out.keep (below_regrown wr dq osq))
            clear e0 CT
            generalize grow (redrawn wr dq) osq = w3 at HP3 ⊢
            go_wp2_with (with_reducible refine wpList_store_row rfl 25 (.tmp 2) (.tmp 104) rfl w.heap.size #[.int .u8 vk, .string vs, .bool vr, .bool vw, .int .u64 vm] rfl rfl 25 _ HP3.out.h (rule_cs vk vs vr vw vm) rfl (rule_one vk vs vr vw vm) ?_)
            exact bodyPost_ret (results_cell_slot rfl _ _ w.heap.size 25 #[.int .u8 vk, .string vs, .bool vr, .bool vw, .int .u64 vm] (0, 0) _ (.bool ok) rfl (setRow_heap _ w.heap.size _ _ _ _ HP3.out.h) Tryd.underlying25 rfl (rule_cs vk vs vr vw vm) rfl) rfl ⟨HA.out, below_setRow HP3.out.b (Nat.le_refl _) _⟩
          · obtain rfl : u8 = .int .i64 7 := hi
            obtain ⟨M, hM⟩ : ∃ M : ByteArray, M = ⟨#[37, 87, 126]⟩ := ⟨_, rfl⟩
            have hMd : M.data.toList = [37, 87, 126] := by rw [hM]
            obtain ⟨R, hR⟩ : ∃ R : ByteArray, R = ⟨(l.drop 3).toArray⟩ := ⟨_, rfl⟩
            have hRd : l.drop 3 = R.data.toList := by rw [hR]
            have HN2 := Lib.hid (show ruleO l = markD 7 R.data.toList from HN.out.trans (congrArg (markD 7) hRd))
            have hRz : R.size ≤ 1048576 := by
              have h1 : R.data.toList.length = R.size := size_l
              have h2 : l.length = T.size := by rw [← HS.out]; exact size_l
              rw [← hRd, List.length_drop] at h1
              omega
            have hMs : M.size = 3 := by rw [hM]; rfl
            have CB := Lib.hid (fun W => begins_yes T M R W (by rw [HS.out, hMs, hMd]; exact hpre) (by rw [HS.out, hMs]; exact hR) hTz (by omega))
            have hc : wr.cell? ⟨p1, 7, none⟩ = some (.string M) := by rw [hM]; exact HP.out.c1 7 (by decide)
            have q0 := eq_str M [37, 87, 126] [62] hMd
            rw [show decide (([37, 87, 126] : List UInt8) = [62]) = false by decide] at q0
            have q1 := eq_str M [37, 87, 126] [35] hMd
            rw [show decide (([37, 87, 126] : List UInt8) = [35]) = false by decide] at q1
            have q2 := eq_str M [37, 87, 126] [33] hMd
            rw [show decide (([37, 87, 126] : List UInt8) = [33]) = false by decide] at q2
            have q3 := eq_str M [37, 87, 126] [43] hMd
            rw [show decide (([37, 87, 126] : List UInt8) = [43]) = false by decide] at q3
            have q4 := eq_str M [37, 87, 126] [45] hMd
            rw [show decide (([37, 87, 126] : List UInt8) = [45]) = false by decide] at q4
            have q5 := eq_str M [37, 87, 126] [38] hMd
            rw [show decide (([37, 87, 126] : List UInt8) = [38]) = false by decide] at q5
            have q6 := eq_str M [37, 87, 126] [37, 87, 126] hMd
            rw [show decide (([37, 87, 126] : List UInt8) = [37, 87, 126]) = true by decide] at q6
            have q7 := eq_str M [37, 87, 126] [37, 82, 126] hMd
            rw [show decide (([37, 87, 126] : List UInt8) = [37, 82, 126]) = false by decide] at q7
            clear hM hMd hR hRd hMs hpre HN hlt
            go_wp2_with fail
            refine (CB.out _).mono ?_
            rintro e w' ⟨rfl, rfl⟩
            clear CB
            obtain ⟨o, ho⟩ : ∃ o, o = patD 10 R.data.toList false true := ⟨_, rfl⟩
            have HN3 := Lib.hid (show ruleO l = o from HN2.out.trans ho.symm)
            obtain ⟨v, hv⟩ : ∃ v, v = o.getD noR := ⟨_, rfl⟩
            obtain ⟨ok, hok⟩ : ∃ ok, ok = o.isSome := ⟨_, rfl⟩
            obtain ⟨vk, hvk⟩ : ∃ x : Int, x = (v.kind : Int) := ⟨_, rfl⟩
            obtain ⟨vs, hvs⟩ : ∃ x : ByteArray, x = ⟨v.s.toArray⟩ := ⟨_, rfl⟩
            obtain ⟨vr, hvr⟩ : ∃ x : Bool, x = v.r := ⟨_, rfl⟩
            obtain ⟨vw, hvw⟩ : ∃ x : Bool, x = v.w := ⟨_, rfl⟩
            obtain ⟨vm, hvm⟩ : ∃ x : Int, x = (v.mask : Int) := ⟨_, rfl⟩
            have he : (Ending.returned (.tuple #[(o.getD noR).agg, .bool o.isSome])) = .returned (.tuple #[.agg #[.int .u8 vk, .string vs, .bool vr, .bool vw, .int .u64 vm], .bool ok]) := by rw [hvk, hvs, hvr, hvw, hvm, hv, hok]; rfl
            have CR := Lib.hid (fun W => (show Calls Tryd.prog 25 #[.int .u8 10, .string R, .bool false, .bool true] W (fun e w' => e = .returned (.tuple #[.agg #[.int .u8 vk, .string vs, .bool vr, .bool vw, .int .u64 vm], .bool ok]) ∧ Below W.heap.size W w') from (pattern_any 10 R false true W (by decide) hRz).mono fun e w' h => ⟨by rw [← ho] at h; exact h.1.trans he, h.2⟩))
            have HA := Lib.hid (show ansR (ruleO l) (.returned (.tuple #[.agg #[.int .u8 vk, .string vs, .bool vr, .bool vw, .int .u64 vm], .bool ok])) by rw [HN3.out, ← he]; rfl)
            clear ho hv hok hvk hvs hvr hvw hvm he HN2 HN3
            have CT := Lib.hid (fun dd os => Calls.regrown_of (CR.out (grow (redrawn wr dd) os)))
            have e0 := fun dd os => cell_regrown hc dd os
            clear CR
            go_wp2_with fail
            clear hc
            refine wp_region_quiet_tail_below 14 (by kernel_rfl) (by kernel_rfl) ?_
            simp only [List.take_succ_cons, List.take_zero, List.drop_succ_cons, List.drop_zero]
            repeat (any_goals (go_big_quiet_step ((go_at_call 25; with_reducible exact CT.out _ _))))
            refine wpQuiet_nil ?_
            rintro _ ⟨⟨dq, osq⟩, rfl⟩
            have HP3 := Lib.hid (HP.out.keep (below_regrown wr dq osq))
            clear e0 CT
            generalize grow (redrawn wr dq) osq = w3 at HP3 ⊢
            go_wp2_with (with_reducible refine wpList_store_row rfl 25 (.tmp 2) (.tmp 104) rfl w.heap.size #[.int .u8 vk, .string vs, .bool vr, .bool vw, .int .u64 vm] rfl rfl 25 _ HP3.out.h (rule_cs vk vs vr vw vm) rfl (rule_one vk vs vr vw vm) ?_)
            exact bodyPost_ret (results_cell_slot rfl _ _ w.heap.size 25 #[.int .u8 vk, .string vs, .bool vr, .bool vw, .int .u64 vm] (0, 0) _ (.bool ok) rfl (setRow_heap _ w.heap.size _ _ _ _ HP3.out.h) Tryd.underlying25 rfl (rule_cs vk vs vr vw vm) rfl) rfl ⟨HA.out, below_setRow HP3.out.b (Nat.le_refl _) _⟩
          · obtain rfl : u8 = .int .i64 8 := hi
            obtain ⟨M, hM⟩ : ∃ M : ByteArray, M = ⟨#[37, 82, 87, 126]⟩ := ⟨_, rfl⟩
            have hMd : M.data.toList = [37, 82, 87, 126] := by rw [hM]
            obtain ⟨R, hR⟩ : ∃ R : ByteArray, R = ⟨(l.drop 4).toArray⟩ := ⟨_, rfl⟩
            have hRd : l.drop 4 = R.data.toList := by rw [hR]
            have HN2 := Lib.hid (show ruleO l = markD 8 R.data.toList from HN.out.trans (congrArg (markD 8) hRd))
            have hRz : R.size ≤ 1048576 := by
              have h1 : R.data.toList.length = R.size := size_l
              have h2 : l.length = T.size := by rw [← HS.out]; exact size_l
              rw [← hRd, List.length_drop] at h1
              omega
            have hMs : M.size = 4 := by rw [hM]; rfl
            have CB := Lib.hid (fun W => begins_yes T M R W (by rw [HS.out, hMs, hMd]; exact hpre) (by rw [HS.out, hMs]; exact hR) hTz (by omega))
            have hc : wr.cell? ⟨p1, 8, none⟩ = some (.string M) := by rw [hM]; exact HP.out.c1 8 (by decide)
            have q0 := eq_str M [37, 82, 87, 126] [62] hMd
            rw [show decide (([37, 82, 87, 126] : List UInt8) = [62]) = false by decide] at q0
            have q1 := eq_str M [37, 82, 87, 126] [35] hMd
            rw [show decide (([37, 82, 87, 126] : List UInt8) = [35]) = false by decide] at q1
            have q2 := eq_str M [37, 82, 87, 126] [33] hMd
            rw [show decide (([37, 82, 87, 126] : List UInt8) = [33]) = false by decide] at q2
            have q3 := eq_str M [37, 82, 87, 126] [43] hMd
            rw [show decide (([37, 82, 87, 126] : List UInt8) = [43]) = false by decide] at q3
            have q4 := eq_str M [37, 82, 87, 126] [45] hMd
            rw [show decide (([37, 82, 87, 126] : List UInt8) = [45]) = false by decide] at q4
            have q5 := eq_str M [37, 82, 87, 126] [38] hMd
            rw [show decide (([37, 82, 87, 126] : List UInt8) = [38]) = false by decide] at q5
            have q6 := eq_str M [37, 82, 87, 126] [37, 87, 126] hMd
            rw [show decide (([37, 82, 87, 126] : List UInt8) = [37, 87, 126]) = false by decide] at q6
            have q7 := eq_str M [37, 82, 87, 126] [37, 82, 126] hMd
            rw [show decide (([37, 82, 87, 126] : List UInt8) = [37, 82, 126]) = false by decide] at q7
            clear hM hMd hR hRd hMs hpre HN hlt
            go_wp2_with fail
            refine (CB.out _).mono ?_
            rintro e w' ⟨rfl, rfl⟩
            clear CB
            obtain ⟨o, ho⟩ : ∃ o, o = patD 10 R.data.toList true true := ⟨_, rfl⟩
            have HN3 := Lib.hid (show ruleO l = o from HN2.out.trans ho.symm)
            obtain ⟨v, hv⟩ : ∃ v, v = o.getD noR := ⟨_, rfl⟩
            obtain ⟨ok, hok⟩ : ∃ ok, ok = o.isSome := ⟨_, rfl⟩
            obtain ⟨vk, hvk⟩ : ∃ x : Int, x = (v.kind : Int) := ⟨_, rfl⟩
            obtain ⟨vs, hvs⟩ : ∃ x : ByteArray, x = ⟨v.s.toArray⟩ := ⟨_, rfl⟩
            obtain ⟨vr, hvr⟩ : ∃ x : Bool, x = v.r := ⟨_, rfl⟩
            obtain ⟨vw, hvw⟩ : ∃ x : Bool, x = v.w := ⟨_, rfl⟩
            obtain ⟨vm, hvm⟩ : ∃ x : Int, x = (v.mask : Int) := ⟨_, rfl⟩
            have he : (Ending.returned (.tuple #[(o.getD noR).agg, .bool o.isSome])) = .returned (.tuple #[.agg #[.int .u8 vk, .string vs, .bool vr, .bool vw, .int .u64 vm], .bool ok]) := by rw [hvk, hvs, hvr, hvw, hvm, hv, hok]; rfl
            have CR := Lib.hid (fun W => (show Calls Tryd.prog 25 #[.int .u8 10, .string R, .bool true, .bool true] W (fun e w' => e = .returned (.tuple #[.agg #[.int .u8 vk, .string vs, .bool vr, .bool vw, .int .u64 vm], .bool ok]) ∧ Below W.heap.size W w') from (pattern_any 10 R true true W (by decide) hRz).mono fun e w' h => ⟨by rw [← ho] at h; exact h.1.trans he, h.2⟩))
            have HA := Lib.hid (show ansR (ruleO l) (.returned (.tuple #[.agg #[.int .u8 vk, .string vs, .bool vr, .bool vw, .int .u64 vm], .bool ok])) by rw [HN3.out, ← he]; rfl)
            clear ho hv hok hvk hvs hvr hvw hvm he HN2 HN3
            have CT := Lib.hid (fun dd os => Calls.regrown_of (CR.out (grow (redrawn wr dd) os)))
            have e0 := fun dd os => cell_regrown hc dd os
            clear CR
            go_wp2_with fail
            clear hc
            refine wp_region_quiet_tail_below 14 (by kernel_rfl) (by kernel_rfl) ?_
            simp only [List.take_succ_cons, List.take_zero, List.drop_succ_cons, List.drop_zero]
            repeat (any_goals (go_big_quiet_step ((go_at_call 25; with_reducible exact CT.out _ _))))
            refine wpQuiet_nil ?_
            rintro _ ⟨⟨dq, osq⟩, rfl⟩
            have HP3 := Lib.hid (HP.out.keep (below_regrown wr dq osq))
            clear e0 CT
            generalize grow (redrawn wr dq) osq = w3 at HP3 ⊢
            go_wp2_with (with_reducible refine wpList_store_row rfl 25 (.tmp 2) (.tmp 104) rfl w.heap.size #[.int .u8 vk, .string vs, .bool vr, .bool vw, .int .u64 vm] rfl rfl 25 _ HP3.out.h (rule_cs vk vs vr vw vm) rfl (rule_one vk vs vr vw vm) ?_)
            exact bodyPost_ret (results_cell_slot rfl _ _ w.heap.size 25 #[.int .u8 vk, .string vs, .bool vr, .bool vw, .int .u64 vm] (0, 0) _ (.bool ok) rfl (setRow_heap _ w.heap.size _ _ _ _ HP3.out.h) Tryd.underlying25 rfl (rule_cs vk vs vr vw vm) rfl) rfl ⟨HA.out, below_setRow HP3.out.b (Nat.le_refl _) _⟩
          · obtain rfl : u8 = .int .i64 9 := hi
            obtain ⟨M, hM⟩ : ∃ M : ByteArray, M = ⟨#[38]⟩ := ⟨_, rfl⟩
            have hMd : M.data.toList = [38] := by rw [hM]
            obtain ⟨R, hR⟩ : ∃ R : ByteArray, R = ⟨(l.drop 1).toArray⟩ := ⟨_, rfl⟩
            have hRd : l.drop 1 = R.data.toList := by rw [hR]
            have HN2 := Lib.hid (show ruleO l = markD 9 R.data.toList from HN.out.trans (congrArg (markD 9) hRd))
            have hRz : R.size ≤ 1048576 := by
              have h1 : R.data.toList.length = R.size := size_l
              have h2 : l.length = T.size := by rw [← HS.out]; exact size_l
              rw [← hRd, List.length_drop] at h1
              omega
            have hMs : M.size = 1 := by rw [hM]; rfl
            have CB := Lib.hid (fun W => begins_yes T M R W (by rw [HS.out, hMs, hMd]; exact hpre) (by rw [HS.out, hMs]; exact hR) hTz (by omega))
            have hc : wr.cell? ⟨p1, 9, none⟩ = some (.string M) := by rw [hM]; exact HP.out.c1 9 (by decide)
            have q0 := eq_str M [38] [62] hMd
            rw [show decide (([38] : List UInt8) = [62]) = false by decide] at q0
            have q1 := eq_str M [38] [35] hMd
            rw [show decide (([38] : List UInt8) = [35]) = false by decide] at q1
            have q2 := eq_str M [38] [33] hMd
            rw [show decide (([38] : List UInt8) = [33]) = false by decide] at q2
            have q3 := eq_str M [38] [43] hMd
            rw [show decide (([38] : List UInt8) = [43]) = false by decide] at q3
            have q4 := eq_str M [38] [45] hMd
            rw [show decide (([38] : List UInt8) = [45]) = false by decide] at q4
            have q5 := eq_str M [38] [38] hMd
            rw [show decide (([38] : List UInt8) = [38]) = true by decide] at q5
            have q6 := eq_str M [38] [37, 87, 126] hMd
            rw [show decide (([38] : List UInt8) = [37, 87, 126]) = false by decide] at q6
            have q7 := eq_str M [38] [37, 82, 126] hMd
            rw [show decide (([38] : List UInt8) = [37, 82, 126]) = false by decide] at q7
            clear hM hMd hR hRd hMs hpre HN hlt
            go_wp2_with fail
            refine (CB.out _).mono ?_
            rintro e w' ⟨rfl, rfl⟩
            clear CB
            obtain ⟨o, ho⟩ : ∃ o, o = patD 12 R.data.toList false false := ⟨_, rfl⟩
            have HN3 := Lib.hid (show ruleO l = o from HN2.out.trans ho.symm)
            obtain ⟨v, hv⟩ : ∃ v, v = o.getD noR := ⟨_, rfl⟩
            obtain ⟨ok, hok⟩ : ∃ ok, ok = o.isSome := ⟨_, rfl⟩
            obtain ⟨vk, hvk⟩ : ∃ x : Int, x = (v.kind : Int) := ⟨_, rfl⟩
            obtain ⟨vs, hvs⟩ : ∃ x : ByteArray, x = ⟨v.s.toArray⟩ := ⟨_, rfl⟩
            obtain ⟨vr, hvr⟩ : ∃ x : Bool, x = v.r := ⟨_, rfl⟩
            obtain ⟨vw, hvw⟩ : ∃ x : Bool, x = v.w := ⟨_, rfl⟩
            obtain ⟨vm, hvm⟩ : ∃ x : Int, x = (v.mask : Int) := ⟨_, rfl⟩
            have he : (Ending.returned (.tuple #[(o.getD noR).agg, .bool o.isSome])) = .returned (.tuple #[.agg #[.int .u8 vk, .string vs, .bool vr, .bool vw, .int .u64 vm], .bool ok]) := by rw [hvk, hvs, hvr, hvw, hvm, hv, hok]; rfl
            have CR := Lib.hid (fun W => (show Calls Tryd.prog 25 #[.int .u8 12, .string R, .bool false, .bool false] W (fun e w' => e = .returned (.tuple #[.agg #[.int .u8 vk, .string vs, .bool vr, .bool vw, .int .u64 vm], .bool ok]) ∧ Below W.heap.size W w') from (pattern_any 12 R false false W (by decide) hRz).mono fun e w' h => ⟨by rw [← ho] at h; exact h.1.trans he, h.2⟩))
            have HA := Lib.hid (show ansR (ruleO l) (.returned (.tuple #[.agg #[.int .u8 vk, .string vs, .bool vr, .bool vw, .int .u64 vm], .bool ok])) by rw [HN3.out, ← he]; rfl)
            clear ho hv hok hvk hvs hvr hvw hvm he HN2 HN3
            go_wp2_with fail
            refine (CR.out _).mono ?_
            rintro e w3 ⟨rfl, hb3⟩
            have HP3 := Lib.hid (HP.out.keep hb3)
            clear hb3 CR
            go_wp2_with (with_reducible refine wpList_store_row rfl 25 (.tmp 2) (.tmp 90) rfl w.heap.size #[.int .u8 vk, .string vs, .bool vr, .bool vw, .int .u64 vm] rfl rfl 25 _ HP3.out.h (rule_cs vk vs vr vw vm) rfl (rule_one vk vs vr vw vm) ?_)
            exact bodyPost_ret (results_cell_slot rfl _ _ w.heap.size 25 #[.int .u8 vk, .string vs, .bool vr, .bool vw, .int .u64 vm] (0, 0) _ (.bool ok) rfl (setRow_heap _ w.heap.size _ _ _ _ HP3.out.h) Tryd.underlying25 rfl (rule_cs vk vs vr vw vm) rfl) rfl ⟨HA.out, below_setRow HP3.out.b (Nat.le_refl _) _⟩
        · obtain ⟨M, hM⟩ : ∃ M : ByteArray, M = ⟨(marks[k]'hlt).toArray⟩ := ⟨_, rfl⟩
          have hMs : M.size = (marks[k]'hlt).length := by rw [hM]; rfl
          have hMl : (marks[k]'hlt).length ≤ 3 + 1 := by
            have : ∀ m ∈ marks, m.length ≤ 4 := by decide
            exact this _ (List.getElem_mem _)
          have CB := Lib.hid (fun W => begins_no T M W (by rw [HS.out, hMs, hM]; exact hpre) hTz (by omega))
          have hc : wr.cell? ⟨p1, k, none⟩ = some (.string M) := by rw [hM]; exact HP.out.c1 k hlt
          have HK2 := Lib.hid (mark_next k hlt HK.out hpre)
          have d1 : decide ((k : Int) < 10) = true := decide_eq_true (by omega)
          subst hi
          clear hM hMs hMl hpre HK
          go_wp2_with fail
          refine (CB.out _).mono ?_
          rintro e w' ⟨rfl, rfl⟩
          clear CB
          go_wp2_with fail
          go_roundw
          case rel => exact ⟨k + 1, by omega, by go_num, HK2, True.intro⟩
          case measure => simp [intOf]; omega
      · have d1 : decide ((k : Int) < 10) = false := decide_eq_false (by omega)
        have HN2 := Lib.hid (mark_none HPn.out (by have := HK.out; omega))
        subst hi
        go_wp2_with (with_reducible refine wpList_store_row rfl 25 (.tmp 2) (.tmp 106) rfl w.heap.size #[.int .u8 0, .string ⟨#[]⟩, .bool false, .bool false, .int .u64 0] rfl rfl 25 _ HP.out.h (rule_cs 0 ⟨#[]⟩ false false 0) rfl (rule_one 0 ⟨#[]⟩ false false 0) ?_)
        exact bodyPost_ret (results_cell_slot rfl _ _ w.heap.size 25 #[.int .u8 0, .string ⟨#[]⟩, .bool false, .bool false, .int .u64 0] (0, 0) _ (.bool false) rfl (setRow_heap _ w.heap.size _ _ _ _ HP.out.h) Tryd.underlying25 rfl (rule_cs 0 ⟨#[]⟩ false false 0) rfl) rfl ⟨ans_no HN2.out, below_setRow HP.out.b (Nat.le_refl _) _⟩
  · have e1 : plainO l = some ⟨n, [], false, false, 0⟩ := by unfold plainO; rw [hp]; rfl
    rw [e1] at he
    have he2 : e = .returned (.tuple #[.agg #[.int .u8 (n : Int), .string ⟨#[]⟩, .bool false, .bool false, .int .u64 0], .bool true]) := he
    subst he2
    have HN := Lib.hid (rule_plain hp)
    have hh : (w1.alloc (.cells #[.int .u8 (n : Int), .string ⟨#[]⟩, .bool false, .bool false, .int .u64 0] 25)).heap[w.heap.size]? = some (.cells #[.int .u8 0, .string ⟨#[]⟩, .bool false, .bool false, .int .u64 0] 25 (0, 0)) := by rw [(Kit.below1 w1 _).block _ HQ1.out.2.2]; exact HQ1.out.1
    have hbb := HQ1.out.2.1.trans ((Kit.below1 w1 (.cells #[.int .u8 (n : Int), .string ⟨#[]⟩, .bool false, .bool false, .int .u64 0] 25)).mono HQ1.out.2.1.size)
    have HQ2 := Lib.hid (And.intro hh hbb)
    clear he hp e1 hh hbb
    go_wp2_with (with_reducible refine wpList_store_row rfl 25 (.tmp 2) (.tmp 22) rfl w.heap.size #[.int .u8 (n : Int), .string ⟨#[]⟩, .bool false, .bool false, .int .u64 0] rfl rfl 25 _ HQ2.out.1 (rule_cs (n : Int) ⟨#[]⟩ false false 0) rfl (rule_one (n : Int) ⟨#[]⟩ false false 0) ?_)
    exact bodyPost_ret (results_cell_slot rfl _ _ w.heap.size 25 #[.int .u8 (n : Int), .string ⟨#[]⟩, .bool false, .bool false, .int .u64 0] (0, 0) _ (.bool true) rfl (setRow_heap _ w.heap.size _ _ _ _ HQ2.out.1) Tryd.underlying25 rfl (rule_cs (n : Int) ⟨#[]⟩ false false 0) rfl) rfl ⟨ans_of HN.out rfl rfl rfl rfl rfl, below_setRow HQ2.out.2 (Nat.le_refl _) _⟩

end Go.Proofs.YtdhhiodnnnfioaaDoor.RefRule
