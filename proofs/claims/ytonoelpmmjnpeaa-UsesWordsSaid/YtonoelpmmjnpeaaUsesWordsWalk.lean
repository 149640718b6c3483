/-
  UsesWords: keys and channels are words of the request; each is read or written; a command that only reads writes none; one without keys needs none.
-/
import Derived.Test.YtonoelpmmjnpeaaUseLaw
import Derived.Test.YtonoelpmmjnpeaaUseWords
import Derived.Test.YtonoelpmmjnpeaaStrSame
import Derived.BigQuiet
import Derived.Deep.QuietTactic
import Derived.StillTailTactics
import Derived.Deep.DeepCutAuto
namespace Go.Proofs.Ytonoelpmmjnpeaa.usesWords
open Go.RowKit Kit StrT UseT TableMath Low UseM RefU UseL
set_option linter.unusedVariables false
set_option maxRecDepth 100000
-- ASKS: 

theorem ownS_one (w W : World) (k : Nat) (S : ByteArray) (x : List UInt8) (hS : S.data.toList = x) (hk : k = W.heap.size) (h : w.heap.size ≤ W.heap.size) : OwnS w.heap.size (W.alloc (.cells #[.string S] 9)) (.slice (some ⟨k, 0, none⟩) 1 1) [x] := by
  subst hk hS
  have h1 := World.ownsRow_lit W (e := 9) (size := 1) (base := w.heap.size) #[.string S] 1 h (by simp [maxLen]) rfl
  have e : sv [S.data.toList] = [.string S] := rfl
  unfold OwnS
  rw [e]
  simpa using h1
/-- The cells of a command that lies at a place. -/
structure CCells (w : World) (g : Nat) (S : ByteArray) (t : Int) : Prop where
  lt : g < w.heap.size
  c0 : w.cell? ⟨g, 0, none⟩ = some (.string S)
  c2 : w.cell? ⟨g, 2, none⟩ = some (.int .u16 t)
theorem CCells.keep {w w' : World} {g : Nat} {S : ByteArray} {t : Int} (h : CCells w g S t) (hb : Below w.heap.size w w') : CCells w' g S t :=
  ⟨Nat.lt_of_lt_of_le h.lt hb.size, by rw [hb.cell (p := ⟨g, 0, none⟩) h.lt]; exact h.c0, by rw [hb.cell (p := ⟨g, 2, none⟩) h.lt]; exact h.c2⟩
theorem CCells.new (W : World) (S : ByteArray) (r t : Int) (k : Nat) (hk : k = W.heap.size) : CCells (W.alloc (.cells #[.string S, .int .i64 r, .int .u16 t] 37)) k S t := by
  subst hk
  refine ⟨by simp, ?_, ?_⟩ <;> (rw [cell_of_row _ _ _ _ 37 _ (heap_alloc_last W _)]; rfl)
/-- What each command's need is, told by its place. -/
theorem ways (k : Nat) (h : k < 56) (nk nc : Nat) (ar aw : Bool) (h1 : 0 < nk ↔ ((k < 43 ∧ k ≠ 40 ∧ k ≠ 41 ∧ k ≠ 42) ∨ k = 50)) (h2 : ar = true ↔ (k = 40 ∨ k = 41)) (h3 : aw = true ↔ k = 42) (h4 : 0 < nc ↔ (k = 52 ∨ k = 54)) :
    (k = 40 ∧ nk = 0 ∧ ar = true ∧ aw = false ∧ nc = 0) ∨ (k = 41 ∧ nk = 0 ∧ ar = true ∧ aw = false ∧ nc = 0) ∨ (k = 42 ∧ nk = 0 ∧ ar = false ∧ aw = true ∧ nc = 0) ∨ (k = 50 ∧ 0 < nk ∧ ar = false ∧ aw = false ∧ nc = 0) ∨
    (k = 52 ∧ nk = 0 ∧ ar = false ∧ aw = false ∧ 0 < nc) ∨ (k = 54 ∧ nk = 0 ∧ ar = false ∧ aw = false ∧ 0 < nc) ∨ (k < 43 ∧ k ≠ 40 ∧ k ≠ 41 ∧ k ≠ 42 ∧ 0 < nk ∧ ar = false ∧ aw = false ∧ nc = 0) ∨ (43 ≤ k ∧ k ≠ 50 ∧ k ≠ 52 ∧ k ≠ 54 ∧ nk = 0 ∧ ar = false ∧ aw = false ∧ nc = 0) := by
  have f1 : ¬ (k = 40 ∨ k = 41) → ar = false := fun hn => by
    cases ar with
    | false => rfl
    | true => exact absurd (h2.1 rfl) hn
  have f2 : ¬ k = 42 → aw = false := fun hn => by
    cases aw with
    | false => rfl
    | true => exact absurd (h3.1 rfl) hn
  by_cases a0 : k = 40
  · exact Or.inl ⟨a0, by omega, h2.2 (Or.inl a0), f2 (by omega), by omega⟩
  by_cases a1 : k = 41
  · exact Or.inr (Or.inl ⟨a1, by omega, h2.2 (Or.inr a1), f2 (by omega), by omega⟩)
  by_cases a2 : k = 42
  · exact Or.inr (Or.inr (Or.inl ⟨a2, by omega, f1 (by omega), h3.2 a2, by omega⟩))
  by_cases a3 : k = 50
  · exact Or.inr (Or.inr (Or.inr (Or.inl ⟨a3, by omega, f1 (by omega), f2 (by omega), by omega⟩)))
  by_cases a4 : k = 52
  · exact Or.inr (Or.inr (Or.inr (Or.inr (Or.inl ⟨a4, by omega, f1 (by omega), f2 (by omega), by omega⟩))))
  by_cases a5 : k = 54
  · exact Or.inr (Or.inr (Or.inr (Or.inr (Or.inr (Or.inl ⟨a5, by omega, f1 (by omega), f2 (by omega), by omega⟩)))))
  by_cases a6 : k < 43
  · exact Or.inr (Or.inr (Or.inr (Or.inr (Or.inr (Or.inr (Or.inl ⟨a6, by omega, by omega, by omega, by omega, f1 (by omega), f2 (by omega), by omega⟩))))))
  · exact Or.inr (Or.inr (Or.inr (Or.inr (Or.inr (Or.inr (Or.inr ⟨by omega, by omega, by omega, by omega, by omega, f1 (by omega), f2 (by omega), by omega⟩))))))
theorem and16 (a b : Nat) (ha : a < 65536) (hb : b < 65536) : bits .and .u16 (a : Int) (b : Int) = ((a &&& b : Nat) : Int) := by
  have hx : a &&& b ≤ a := Nat.and_le_left
  have h1 : (BitVec.ofInt 16 (a : Int)).toNat = a := by
    rw [BitVec.ofInt_natCast, BitVec.toNat_ofNat]; exact Nat.mod_eq_of_lt (by omega)
  have h2 : (BitVec.ofInt 16 (b : Int)).toNat = b := by
    rw [BitVec.ofInt_natCast, BitVec.toNat_ofNat]; exact Nat.mod_eq_of_lt (by omega)
  show IntKind.u16.wrap ((BitVec.ofInt 16 (a : Int) &&& BitVec.ofInt 16 (b : Int)).toNat : Int) = _
  rw [BitVec.toNat_and, h1, h2, IntKind.wrap_u16]
  omega
theorem and_two (g : Nat) : g &&& 2 = 0 ↔ g / 2 % 2 = 0 := by
  have hb : g.testBit 1 = decide (g / 2 ^ 1 % 2 = 1) := Nat.testBit_eq_decide_div_mod_eq
  have h1 : (g &&& 2 ^ 1).testBit 1 = g.testBit 1 := by rw [Nat.testBit_and, Nat.testBit_two_pow_self, Bool.and_true]
  have e2 : (2 : Nat) ^ 1 = 2 := rfl
  constructor
  · intro e
    rw [e2, e, Nat.zero_testBit, hb] at h1
    have h1 := of_decide_eq_false h1.symm
    rw [e2] at h1
    omega
  · intro h
    refine Nat.eq_of_testBit_eq fun i => ?_
    rw [Nat.zero_testBit, Nat.testBit_and, show (2 : Nat) = 2 ^ 1 from rfl, Nat.testBit_two_pow]
    by_cases hi : 1 = i
    · subst hi
      rw [hb, decide_eq_false (by rw [e2]; omega)]
      rfl
    · simp [hi]
/-- The first two bits of a command's categories. -/
theorem cat1 (t : Nat) (h : t < 4096) : bits .and .u16 (t : Int) 1 = ((t % 2 : Nat) : Int) := by
  have := and16 t 1 (by omega) (by omega)
  rw [show ((1 : Nat) : Int) = 1 from rfl] at this
  rw [this, Nat.and_one_is_mod]
theorem cat3 (t : Nat) (h : t < 4096) : bits .and .u16 (t : Int) 3 = ((t % 4 : Nat) : Int) := by
  have := and16 t 3 (by omega) (by omega)
  rw [show ((3 : Nat) : Int) = 3 from rfl] at this
  rw [this, show (3 : Nat) = 2 ^ 2 - 1 from rfl, Nat.and_two_pow_sub_one_eq_mod]
theorem cat2 (t : Nat) (h : t < 4096) : (bits .and .u16 (t : Int) 2 == 0) = decide (t / 2 % 2 = 0) := by
  have := and16 t 2 (by omega) (by omega)
  rw [show ((2 : Nat) : Int) = 2 from rfl] at this
  rw [this, Bool.eq_iff_iff, beq_iff_eq, decide_eq_true_eq, ← and_two]
  omega
theorem less_more (n j : Nat) (h : j < n) : n - (intOf (.int .i64 ((j : Int) + 1))).toNat < n - (intOf (.int .i64 (j : Int))).toNat := by
  show n - ((j : Int) + 1).toNat < n - ((j : Int)).toNat
  omega
/-- What the last two lines ask, told by the command's place. -/
theorem facts_at {k t : Nat} {nm : List UInt8} {S : ByteArray} (hk : k < 56) (ht : t = (cmdAt k).ct) (hn : nm = (cmdAt k).name) (hS : S.data.toList = nm) (h3 : bits .and .u16 (t : Int) 3 = ((t % 4 : Nat) : Int)) :
    (bits .and .u16 (t : Int) 3 != 0) = decide (k < 43) ∧ (S.toList == [119, 97, 116, 99, 104]) = decide (k = 50) ∧ (S.toList == [115, 117, 98, 115, 99, 114, 105, 98, 101]) = decide (k = 52) ∧ (S.toList == [112, 117, 98, 108, 105, 115, 104]) = decide (k = 54) := by
  obtain ⟨-, -, c3, c4, c5, c6, -⟩ := kinds hk
  rw [← ht] at c3
  rw [← hn] at c4 c5 c6
  rw [ByteArray.toList_eq, hS, h3]
  refine ⟨?_, ?_, ?_, ?_⟩
  · rw [Bool.eq_iff_iff, bne_iff_ne, decide_eq_true_eq, ← c3]
    omega
  · rw [Bool.eq_iff_iff, beq_iff_eq, decide_eq_true_eq]
    exact c4
  · rw [Bool.eq_iff_iff, beq_iff_eq, decide_eq_true_eq]
    exact c5
  · rw [Bool.eq_iff_iff, beq_iff_eq, decide_eq_true_eq]
    exact c6
theorem bytes_lit (S : ByteArray) (l : List UInt8) : (S.toList == (⟨l.toArray⟩ : ByteArray).toList) = (S.toList == l) := by
  rw [ByteArray.toList_eq (⟨l.toArray⟩ : ByteArray)]
theorem pos_yes {n : Nat} (h : 0 < n) : decide (0 < n) = true := decide_eq_true h
theorem pos_no {n : Nat} (h : n = 0) : decide (0 < n) = false := decide_eq_false (by omega)
theorem pos_cast (n : Nat) : decide ((0 : Int) < (n : Int)) = decide (0 < n) := by
  rw [Bool.eq_iff_iff, decide_eq_true_eq, decide_eq_true_eq]
  omega
/-- The answers of the last two lines, in seven ways. -/
theorem ends (k nk nc t : Nat) (ar aw : Bool) (hw : (k = 40 ∧ nk = 0 ∧ ar = true ∧ aw = false ∧ nc = 0) ∨ (k = 41 ∧ nk = 0 ∧ ar = true ∧ aw = false ∧ nc = 0) ∨ (k = 42 ∧ nk = 0 ∧ ar = false ∧ aw = true ∧ nc = 0) ∨ (k = 50 ∧ 0 < nk ∧ ar = false ∧ aw = false ∧ nc = 0) ∨
    (k = 52 ∧ nk = 0 ∧ ar = false ∧ aw = false ∧ 0 < nc) ∨ (k = 54 ∧ nk = 0 ∧ ar = false ∧ aw = false ∧ 0 < nc) ∨ (k < 43 ∧ k ≠ 40 ∧ k ≠ 41 ∧ k ≠ 42 ∧ 0 < nk ∧ ar = false ∧ aw = false ∧ nc = 0) ∨ (43 ≤ k ∧ k ≠ 50 ∧ k ≠ 52 ∧ k ≠ 54 ∧ nk = 0 ∧ ar = false ∧ aw = false ∧ nc = 0)) (hc : t % 4 ≠ 0 ↔ k < 43) :
    ∃ P wt su pu nb cb c2 : Bool, decide (k < 43) = P ∧ decide (k = 50) = wt ∧ decide (k = 52) = su ∧ decide (k = 54) = pu ∧ decide (0 < nk) = nb ∧ decide (0 < nc) = cb ∧ decide (t / 2 % 2 = 0) = c2 ∧
      ((P = true ∧ wt = false ∧ su = false ∧ pu = false ∧ nb = false ∧ cb = false ∧ ar = true ∧ aw = false ∧ (c2 = true ∨ (c2 = false ∧ t / 2 % 2 = 1 ∧ k ≠ 42))) ∨ (P = true ∧ wt = false ∧ su = false ∧ pu = false ∧ nb = false ∧ cb = false ∧ ar = false ∧ aw = true ∧ (c2 = true ∨ c2 = false)) ∨
       (P = false ∧ wt = true ∧ su = false ∧ pu = false ∧ nb = true ∧ cb = false ∧ ar = false ∧ aw = false ∧ c2 = true) ∨ (P = false ∧ wt = false ∧ su = true ∧ pu = false ∧ nb = false ∧ cb = true ∧ ar = false ∧ aw = false ∧ c2 = true) ∨
       (P = false ∧ wt = false ∧ su = false ∧ pu = true ∧ nb = false ∧ cb = true ∧ ar = false ∧ aw = false ∧ c2 = true) ∨ (P = true ∧ wt = false ∧ su = false ∧ pu = false ∧ nb = true ∧ cb = false ∧ ar = false ∧ aw = false ∧ (c2 = true ∨ (c2 = false ∧ t / 2 % 2 = 1 ∧ k ≠ 42))) ∨
       (P = false ∧ wt = false ∧ su = false ∧ pu = false ∧ nb = false ∧ cb = false ∧ ar = false ∧ aw = false ∧ c2 = true)) := by
  refine ⟨_, _, _, _, _, _, _, rfl, rfl, rfl, rfl, rfl, rfl, rfl, ?_⟩
  have hc2 : decide (t / 2 % 2 = 0) = true ∨ (decide (t / 2 % 2 = 0) = false ∧ t / 2 % 2 = 1) := by
    by_cases h : t / 2 % 2 = 0
    · exact Or.inl (decide_eq_true h)
    · exact Or.inr ⟨decide_eq_false h, by omega⟩
  have hc3 : ¬ k < 43 → decide (t / 2 % 2 = 0) = true := fun h => decide_eq_true (by
    have : ¬ t % 4 ≠ 0 := fun h4 => h (hc.1 h4)
    omega)
  rcases hw with ⟨e, h1, h2, h3, h4⟩ | ⟨e, h1, h2, h3, h4⟩ | ⟨e, h1, h2, h3, h4⟩ | ⟨e, h1, h2, h3, h4⟩ | ⟨e, h1, h2, h3, h4⟩ | ⟨e, h1, h2, h3, h4⟩ | ⟨e, e1, e2, e3, h1, h2, h3, h4⟩ | ⟨e, e1, e2, e3, h1, h2, h3, h4⟩
  · refine Or.inl ⟨decide_eq_true (by omega), decide_eq_false (by omega), decide_eq_false (by omega), decide_eq_false (by omega), pos_no h1, pos_no h4, h2, h3, ?_⟩
    rcases hc2 with h | ⟨h, h'⟩
    · exact Or.inl h
    · exact Or.inr ⟨h, h', by omega⟩
  · refine Or.inl ⟨decide_eq_true (by omega), decide_eq_false (by omega), decide_eq_false (by omega), decide_eq_false (by omega), pos_no h1, pos_no h4, h2, h3, ?_⟩
    rcases hc2 with h | ⟨h, h'⟩
    · exact Or.inl h
    · exact Or.inr ⟨h, h', by omega⟩
  · refine Or.inr (Or.inl ⟨decide_eq_true (by omega), decide_eq_false (by omega), decide_eq_false (by omega), decide_eq_false (by omega), pos_no h1, pos_no h4, h2, h3, ?_⟩)
    rcases hc2 with h | ⟨h, h'⟩
    · exact Or.inl h
    · exact Or.inr h
  · exact Or.inr (Or.inr (Or.inl ⟨decide_eq_false (by omega), decide_eq_true e, decide_eq_false (by omega), decide_eq_false (by omega), pos_yes h1, pos_no h4, h2, h3, hc3 (by omega)⟩))
  · exact Or.inr (Or.inr (Or.inr (Or.inl ⟨decide_eq_false (by omega), decide_eq_false (by omega), decide_eq_true e, decide_eq_false (by omega), pos_no h1, pos_yes h4, h2, h3, hc3 (by omega)⟩)))
  · exact Or.inr (Or.inr (Or.inr (Or.inr (Or.inl ⟨decide_eq_false (by omega), decide_eq_false (by omega), decide_eq_false (by omega), decide_eq_true e, pos_no h1, pos_yes h4, h2, h3, hc3 (by omega)⟩))))
  · refine Or.inr (Or.inr (Or.inr (Or.inr (Or.inr (Or.inl ⟨decide_eq_true e, decide_eq_false (by omega), decide_eq_false (by omega), decide_eq_false (by omega), pos_yes h1, pos_no h4, h2, h3, ?_⟩)))))
    rcases hc2 with h | ⟨h, h'⟩
    · exact Or.inl h
    · exact Or.inr ⟨h, h', e3⟩
  · exact Or.inr (Or.inr (Or.inr (Or.inr (Or.inr (Or.inr ⟨decide_eq_false (by omega), decide_eq_false e1, decide_eq_false e2, decide_eq_false e3, pos_no h1, pos_no h4, h2, h3, hc3 (by omega)⟩)))))

theorem names_short : (List.range 56).all (fun j => decide ((cmdAt j).name.length ≤ 20)) = true := by decide +kernel

set_option maxHeartbeats 4000000 in
theorem walk (a : Int) (q : Option Addr) (L : List (List UInt8)) (n c : Nat) (w : World) (ha0 : 0 ≤ a) (ha1 : a ≤ 255) (hL : L.length = n) (h : Ss w q L) (hz : ∀ s ∈ L, s.length ≤ 140737488351232) (hc : n ≤ c) (hcm : c ≤ 9223372036854775807) (hnil : q = none → c = 0) :
    Calls Try.prog 4 #[.int .u8 a, .slice q n c] w fun e w' => e = .returned (.bool true) ∧ Below w.heap.size w w' := by
  have C0 := Lib.hid (shown_any w)
  obtain ⟨k, hk⟩ : ∃ k : Nat, a % 56 = (k : Int) := ⟨(a % 56).toNat, by omega⟩
  have hk56 : k < 56 := by omega
  have CA := Lib.hid (fun W => RefTab.at_any (k : Int) W (by omega) (by omega))
  rw [show aggV (atV (k : Int)) = .agg #[.string ⟨(cmdAt k).name.toArray⟩, .int .i64 (cmdAt k).ar, .int .u16 ((cmdAt k).ct : Int)] by rw [RefTab.atV_in (by omega) (by omega)]; rfl, show atB (k : Int) = true from decide_eq_true (by omega)] at CA
  obtain ⟨nm, hnm⟩ : ∃ nm, nm = (cmdAt k).name := ⟨_, rfl⟩
  obtain ⟨r, hr⟩ : ∃ r, r = (cmdAt k).ar := ⟨_, rfl⟩
  obtain ⟨t, ht⟩ : ∃ t, t = (cmdAt k).ct := ⟨_, rfl⟩
  rw [← hnm, ← hr, ← ht] at CA
  obtain ⟨S, hS⟩ : ∃ S : ByteArray, S = ⟨nm.toArray⟩ := ⟨_, rfl⟩
  rw [← hS] at CA
  have HSd := Lib.hid (show S.data.toList = nm by rw [hS])
  obtain ⟨M, hM⟩ : ∃ M, M = L.take 30 := ⟨_, rfl⟩
  obtain ⟨m, hm⟩ : ∃ m, m = min n 30 := ⟨_, rfl⟩
  have HMl := Lib.hid (show M.length = m by rw [hM, hm, List.length_take, hL]; omega)
  have HMs := Lib.hid (show Ss w q M by rw [hM]; exact h.take 30)
  have hm30 : m ≤ 30 := by omega
  have hmc : m ≤ c := by omega
  have hmm : ((30 : Int) < (n : Int) ∧ m = 30) ∨ (¬ (30 : Int) < (n : Int) ∧ m = n) := by omega
  have h30c : (30 : Int) < (n : Int) → (30 : Int) ≤ (c : Int) := by omega
  have HNil := Lib.hid hnil
  have HAl := Lib.hid (show (nm :: M).length = m + 1 by rw [List.length_cons, HMl.out])
  have CFit := Lib.hid (fun W => RefTab.fits_any (k : Int) ((m + 1 : Nat) : Int) W (by omega) (by omega) (by omega) (by omega))
  obtain ⟨FB, hFB⟩ : ∃ FB, FB = fitsB (k : Int) ((m + 1 : Nat) : Int) := ⟨_, rfl⟩
  rw [← hFB] at CFit
  have hsh : nm.length ≤ 140737488351232 := by
    have := of_decide_eq_true (List.all_eq_true.1 names_short k (List.mem_range.2 hk56))
    rw [← hnm] at this
    omega
  have CO := Lib.hid (fun (W : World) (p : Option Addr) (cg : Nat) (hS : Ss W p (nm :: M)) (h1 : m + 1 ≤ cg) (h2 : cg ≤ 9223372036854775807) (h3 : p = none → cg = 0) => of_any p (nm :: M) (m + 1) cg W HAl.out hS (by omega) h1 h2 h3 (by rw [List.getD_cons_zero]; exact hsh))
  unfold OfP at CO
  have hpl := places hk56
  have hkd := kinds hk56
  rw [← hnm] at hpl hkd
  rw [← ht] at hkd
  have hnL : nameL (nm :: M) = nm := by unfold nameL; rw [List.getD_cons_zero, hpl.2.2.2.2.2.2]
  have hokL : okL nm (m + 1) = (FB && !(decide (nm = nMset) && decide ((m + 1) % 2 = 0))) := by
    unfold okL
    rw [hpl.2.2.2.2.1, hFB]
  obtain ⟨lA, hlA⟩ : ∃ lA, lA = m + 1 := ⟨_, rfl⟩
  rw [← hlA] at CFit CO HAl hokL
  have HLA := Lib.hid hlA
  have HSz := Lib.hid (show ([nm] : List (List UInt8)).length + m ≤ 2097152 by simp; omega)
  have hl31 : lA ≤ 31 := by omega
  have hl1 : 1 ≤ lA := by omega
  -- whether it is a request
  have HOk := Lib.hid hokL
  have HPl := Lib.hid hpl
  have HKd := Lib.hid hkd
  have HnL := Lib.hid hnL
  have Hnm := Lib.hid hnm
  have Ht := Lib.hid ht
  have h56 := hk56
  clear hM hm hL h hz hnil hFB hsh hlA hokL hpl hkd hnL hr hS hnm ht
  go_enter Try.func4, Try.ntmps4
  go_wp2_with fail
  refine C0.out.mono ?_
  rintro e w1 ⟨rfl, hb1⟩
  go_wp2_with fail
  refine (CA.out _).mono ?_
  rintro e w2 ⟨rfl, hb2⟩
  have hb12 := hb1.trans (hb2.mono hb1.size)
  have HB3 := Lib.hid (hb12.alloc hb12.size (.cells #[.string S, .int .i64 r, .int .u16 (t : Int)] 37))
  have HC3 := Lib.hid (CCells.new w2 S r (t : Int) w2.heap.size rfl)
  clear hb1 hb2 hb12 C0 CA
  go_upto_if 27 with fail
  generalize w2.alloc (.cells #[.string S, .int .i64 r, .int .u16 (t : Int)] 37) = W3 at HB3 HC3 ⊢
  go_cut [1] (fun v wx => v = .slice q m c ∧ W3 = wx)
  case first =>
    rcases hmm with ⟨d1, rfl⟩ | ⟨d1, rfl⟩
    · have hc30 := h30c d1
      clear HNil
      go_wp2_with fail
      go_meet
      exact ⟨rfl, rfl⟩
    · clear h30c HNil
      go_wp2_with fail
      go_meet
      exact ⟨rfl, rfl⟩
  case rest =>
    obtain ⟨rfl, rfl⟩ := hcut
    clear hmm h30c
    go_upto_region 5 with fail
    have hc0 := HC3.out.c0
    have HO1 := Lib.hid (ownS_one W3 W3 W3.heap.size S nm HSd.out rfl (Nat.le_refl _))
    have HB1 := Lib.hid (Kit.below1 W3 (.cells #[.string S] 9))
    have HM1 := Lib.hid ((HMs.out.keep HB3.out).keep HB1.out)
    go_wp2_with (first
      | (at_builtin; refine wpList_append_ss (w0 := W3) rfl (.tmp 32) (.tmp 33) rfl _ [nm] rfl HO1.out HB1.out q M _ c rfl HMl.out HM1.out HNil.out HSz.out (nm :: M) rfl ?_
         intro v5 w5 hown5 hb5
         obtain ⟨p5, c5, hv5, hS5, -, e1, e2, e3⟩ := ownS_ans hown5
         rw [HAl.out] at hv5 e1
         have CO5 := Lib.hid (CO.out w5 p5 c5 hS5 e1 e2 e3)
         have HS5 := Lib.hid hS5
         have HC5 := Lib.hid (HC3.out.keep hb5)
         have HB5 := Lib.hid (HB3.out.trans (hb5.mono HB3.out.size))
         have hlc5 : lA ≤ c5 := e1
         clear hown5 hb5 hS5 e1 e2 e3 HO1 HB1 HM1 hc0 CO
         subst hv5))
    by_cases hok : okL nm lA = false
    · obtain ⟨z1, z2⟩ := of_bad (args := nm :: M) (by simp) (by rw [HnL.out]; exact HPl.out.2.2.2.2.2.1) (by rw [HnL.out, HAl.out]; exact hok)
      rw [z1, z2] at CO5
      have hcase : FB = false ∨ (FB = true ∧ nm = nMset) := by
        have h1 := HOk.out
        rw [hok] at h1
        cases FB with
        | false => exact Or.inl rfl
        | true =>
          refine Or.inr ⟨rfl, ?_⟩
          by_cases hm : nm = nMset
          · exact hm
          · rw [decide_eq_false hm] at h1; cases h1
      clear z1 z2 hok
      refine CO5.out.mono ?_
      rintro e w6 ⟨v6, rfl, hN6, hb6⟩
      obtain ⟨qk, ck, qc, cc, rfl, hO⟩ := need_open hN6
      have HC7 := Lib.hid ((HC5.out.keep hb6).keep (Kit.below1 w6 (.cells #[.int .i64 0, .slice qk 0 ck, .bool false, .bool false, .slice qc 0 cc] 27)))
      have HN7 := Lib.hid (NCells.new w6 (.int .i64 0) (.slice qk 0 ck) (.bool false) (.bool false) (.slice qc 0 cc) w6.heap.size rfl)
      have HL7 := Lib.hid (show w6.heap.size < (w6.alloc (.cells #[.int .i64 0, .slice qk 0 ck, .bool false, .bool false, .slice qc 0 cc] 27)).heap.size by simp)
      have hb56 := HB5.out.trans (hb6.mono HB5.out.size)
      have HB7 := Lib.hid (hb56.alloc hb56.size (.cells #[.int .i64 0, .slice qk 0 ck, .bool false, .bool false, .slice qc 0 cc] 27))
      clear hN6 hb6 hO hb56 CO5 HC5 HB5 HS5
      simp only [nd0, List.length_nil]
      go_upto_region 7 with fail
      generalize w6.alloc (.cells #[.int .i64 0, .slice qk 0 ck, .bool false, .bool false, .slice qc 0 cc] 27) = W7 at HC7 HN7 HL7 HB7 ⊢
      go_wp2_with fail
      refine (CFit.out _).mono ?_
      rintro e w8 ⟨rfl, hb8⟩
      have HB8 := Lib.hid (HB7.out.trans (hb8.mono HB7.out.size))
      have hc8 := (HC7.out.keep hb8).c0
      obtain ⟨a0, a1, a2, a3, a4⟩ := HN7.out.keep hb8 HL7.out
      clear hb8 HC7 HN7 HL7 HB7 CFit
      rcases hcase with rfl | ⟨rfl, hms⟩
      · go_wp2_with fail
        go_ret
        exact ⟨rfl, HB8.out⟩
      · obtain ⟨y1, y2⟩ := name_eq HSd.out hms
        unfold nMset at y1 y2
        clear hms
        go_wp2_with fail
        go_ret
        exact ⟨rfl, HB8.out⟩
    · have hok1 : okL nm lA = true := by simpa using hok
      have hFt : FB = true := by
        have h1 := HOk.out
        rw [hok1] at h1
        cases FB with
        | true => rfl
        | false => cases h1
      subst hFt
      obtain ⟨z1, z2, z3, z4, z5, z6, z7⟩ := need_of h56 (L := nm :: M) (by rw [List.getD_cons_zero]; exact Hnm.out) (by rw [← Hnm.out, HAl.out]; exact hok1)
      rw [z1] at CO5
      obtain ⟨d, hd⟩ : ∃ d, d = ofN (nm :: M) := ⟨_, rfl⟩
      have hokA : okL nm (nm :: M).length = true := by rw [HAl.out]; exact hok1
      have FK := Lib.hid (show ∀ u ∈ d.keys, u.key ∈ M ∧ (u.r = true ∨ u.w = true) from fun u hu => by
        rw [hd, z2, ← Hnm.out] at hu
        exact keys_words HPl.out.2.2.2.2.2.1 hokA u hu)
      have FR := Lib.hid (show t % 2 = 1 → ∀ u ∈ d.keys, u.w = false from fun h1 u hu => by
        rw [hd, z2] at hu
        rw [Ht.out] at h1
        exact keys_read h56 h1 u hu)
      have FC := Lib.hid (show ∀ x ∈ d.ch, x ∈ M from fun x hx => by
        rw [hd, z2, ← Hnm.out] at hx
        exact chans_words HPl.out.2.2.2.2.2.1 hokA x hx)
      have FW := Lib.hid (show t / 2 % 2 = 1 → k ≠ 42 → 0 < (writesL d.keys).length from fun h1 h2 => by
        rw [hd, z2]
        rw [Ht.out] at h1
        exact keys_write h56 (by rw [← Hnm.out]; exact hokA) h1 h2)
      have hKl : d.keys.length ≤ 1048576 := by rw [hd]; have := keys_few (nm :: M); rw [HAl.out] at this; omega
      have hCl : d.ch.length ≤ 1048576 := by rw [hd]; have := chans_few (nm :: M); rw [HAl.out] at this; omega
      rw [← hd] at CO5 z3 z4 z5 z6 z7
      obtain ⟨b5, o5, hp5, -, -⟩ := HS5.out (by rw [HAl.out]; omega)
      subst hp5
      clear z1 z2 hd hokA hok hok1
      refine CO5.out.mono ?_
      rintro e w6 ⟨v6, rfl, hN6, hb6⟩
      obtain ⟨qk, ck, qc, cc, rfl, hO⟩ := need_open hN6
      obtain ⟨kc, kl, ar, aw, cl⟩ := d
      simp only at hO hKl hCl z3 z4 z5 z6 z7 FK FR FC FW ⊢
      subst z3
      obtain ⟨nk, hnk⟩ : ∃ nk, nk = kl.length := ⟨_, rfl⟩
      obtain ⟨nc, hnc⟩ : ∃ nc, nc = cl.length := ⟨_, rfl⟩
      rw [← hnk] at z4 hKl ⊢
      rw [← hnc] at z7 hCl ⊢
      have HNk := Lib.hid hnk
      have HNc := Lib.hid hnc
      have ht4 : t < 4096 := by rw [Ht.out]; exact ct_small k h56
      have Hct1 := Lib.hid (cat1 t ht4)
      have Hct2 := Lib.hid (cat2 t ht4)
      have Hct3 := Lib.hid (cat3 t ht4)
      have hw := ways k h56 nk nc ar aw z4 z5 z6 z7
      have Hw := Lib.hid hw
      have HO7 := Lib.hid (hO.keep (Kit.below1 w6 (.cells #[.int .i64 (k : Int), .slice qk nk ck, .bool ar, .bool aw, .slice qc nc cc] 27)))
      have HC7 := Lib.hid ((HC5.out.keep hb6).keep (Kit.below1 w6 (.cells #[.int .i64 (k : Int), .slice qk nk ck, .bool ar, .bool aw, .slice qc nc cc] 27)))
      have HS7 := Lib.hid ((HS5.out.keep hb6).keep (Kit.below1 w6 (.cells #[.int .i64 (k : Int), .slice qk nk ck, .bool ar, .bool aw, .slice qc nc cc] 27)))
      have HN7 := Lib.hid (NCells.new w6 (.int .i64 (k : Int)) (.slice qk nk ck) (.bool ar) (.bool aw) (.slice qc nc cc) w6.heap.size rfl)
      have HL7 := Lib.hid (show w6.heap.size < (w6.alloc (.cells #[.int .i64 (k : Int), .slice qk nk ck, .bool ar, .bool aw, .slice qc nc cc] 27)).heap.size by simp)
      have hb56 := HB5.out.trans (hb6.mono HB5.out.size)
      have HB7 := Lib.hid (hb56.alloc hb56.size (.cells #[.int .i64 (k : Int), .slice qk nk ck, .bool ar, .bool aw, .slice qc nc cc] 27))
      clear hN6 hb6 hO hb56 CO5 HC5 HB5 HS5 hnk hnc hw z4 z5 z6 z7
      go_upto_region 7 with fail
      generalize w6.alloc (.cells #[.int .i64 (k : Int), .slice qk nk ck, .bool ar, .bool aw, .slice qc nc cc] 27) = W7 at HO7 HC7 HS7 HN7 HL7 HB7 ⊢
      go_wp2_with fail
      refine (CFit.out _).mono ?_
      rintro e w8 ⟨rfl, hb8⟩
      have HB8 := Lib.hid (HB7.out.trans (hb8.mono HB7.out.size))
      have HC8 := Lib.hid (HC7.out.keep hb8)
      have HS8 := Lib.hid (HS7.out.keep hb8)
      have HO8 := Lib.hid (HO7.out.keep hb8)
      have HN8 := Lib.hid (HN7.out.keep hb8 HL7.out)
      have HL8 := Lib.hid (Nat.lt_of_lt_of_le HL7.out hb8.size)
      clear hb8 HO7 HC7 HS7 HN7 HL7 HB7 CFit
      obtain ⟨a0, a1, a2, a3, a4⟩ := HN8.out
      have t0 : ((k : Int) != (k : Int)) = false := bne_self_eq_false _
      go_wp2_with fail
      clear a0 a1 a2 a3 a4 hk ha0 ha1
      go_loopw [12] (fun i wr => ∃ j : Nat, j ≤ nk ∧ i = .int .i64 j ∧ Hid (Below w8.heap.size w8 wr)) (fun i _ => nk - (intOf i).toNat)
      case atStart => exact ⟨0, Nat.zero_le _, rfl, Lib.hid (Below.refl _ _)⟩
      case round =>
        obtain ⟨j, hj, rfl, HB⟩ := hrel
        obtain ⟨a0, a1, a2, a3, a4⟩ := HN8.out.keep HB.out HL8.out
        by_cases hlt : j < nk
        · have d2 : decide ((j : Int) < (nk : Int)) = true := decide_eq_true (by omega)
          have HLm := Lib.hid (less_more nk j hlt)
          have hj0 : (0 : Int) ≤ (j : Int) := by omega
          have hjn : (j : Int) < (nk : Int) := by omega
          have hjl : j < kl.length := by rw [← HNk.out]; exact hlt
          obtain ⟨hin, hrw⟩ := FK.out _ (List.getElem_mem hjl)
          have hro := fun h1 => FR.out h1 _ (List.getElem_mem hjl)
          have HUj := Lib.hid (fun W (hb : Below w8.heap.size w8 W) => (HO8.out.u.keep hb).cells j hjl)
          obtain ⟨bq, oq, hqk, -, u0, u1, u2⟩ := HUj.out _ HB.out
          have HQ := Lib.hid hqk
          have hl2 : 2 ≤ lA := by
            have h1 := List.length_pos_of_mem hin
            have h2 := HAl.out
            rw [List.length_cons] at h2
            omega
          have hc5n : ¬ c5 = 1 := by omega
          have hMl1 : M.length = lA - 1 := by
            have h2 := HAl.out
            rw [List.length_cons] at h2
            omega
          obtain ⟨x, hx⟩ : ∃ x, x = kl[j] := ⟨_, rfl⟩
          rw [← hx] at hin hrw hro u0 u1 u2
          have HX := Lib.hid hx
          obtain ⟨xk, xr, xw⟩ := x
          simp only at hin hrw hro u0 u1 u2
          obtain ⟨T, hT⟩ : ∃ T : ByteArray, T = ⟨xk.toArray⟩ := ⟨_, rfl⟩
          have hTd : T.data.toList = xk := by rw [hT]
          have CI := Lib.hid (fun nn => by
            have hS := Ss.drop (HS8.out.keep (StrS.below_drewN HB.out nn)) 1 (by rw [HAl.out]; omega) c5 (by rw [HAl.out]; exact hlc5)
            unfold StrT.partAt at hS
            rw [if_neg hc5n] at hS
            have h := StrS.in_any (some ⟨b5, o5 + 1, none⟩) M (lA - 1) (c5 - 1) T xk (wr.drewN nn) hMl1 hS hTd (by omega)
            rwa [decide_eq_true hin] at h : ∀ nn, Calls Try.prog 20 #[.slice (some ⟨b5, o5 + 1, none⟩) (lA - 1) (c5 - 1), .string T] (wr.drewN nn) fun e w' => e = .returned (.bool true) ∧ w' = wr.drewN nn)
          rw [← hT] at u0
          subst hqk
          have hlA1 : (1 : Int) ≤ (lA : Int) := by omega
          have hrw2 : xr = true ∨ (xr = false ∧ xw = true) := by
            cases xr with
            | true => exact Or.inl rfl
            | false => exact Or.inr ⟨rfl, hrw.resolve_left (by simp)⟩
          have hro2 : xw = false ∨ (xw = true ∧ t % 2 = 0) := by
            cases xw with
            | false => exact Or.inl rfl
            | true => exact Or.inr ⟨rfl, by
                rcases Nat.mod_two_eq_zero_or_one t with h2 | h2
                · exact h2
                · have := hro h2; cases this⟩
          clear hin hrw hro hx hMl1 hTd hT
          go_wp2_with fail
          go_quiet ((go_at_call 20; with_reducible exact Calls.quiet_of_same (CI.out _)))
          have hbq := StrS.below_drewN HB.out nq
          clear u0 u1 u2 a0 a1 a2 a3 a4 CI
          generalize wr.drewN nq = wq at hbq ⊢
          obtain ⟨a0, a1, a2, a3, a4⟩ := HN8.out.keep hbq HL8.out
          obtain ⟨b9, o9, e9, -, u0, u1, u2⟩ := HUj.out wq hbq
          injection e9 with e9
          injection e9 with f1 f2 f3
          subst f1 f2
          rw [← HX.out] at u0 u1 u2
          simp only at u0 u1 u2
          have y2 := (HC8.out.keep hbq).c2
          clear a0 a2 a3 a4 f3 hl2 hc5n hlA1
          have tt : (bits .and .u16 (t : Int) 1 == 1) = true ∨ (bits .and .u16 (t : Int) 1 == 1) = false := by
            cases hh : (bits .and .u16 (t : Int) 1 == 1)
            · exact Or.inr rfl
            · exact Or.inl rfl
          have t0 : t % 2 = 0 → (bits .and .u16 (t : Int) 1 == 1) = false := fun h => by
            rw [Hct1.out, h]
            rfl
          rcases hro2 with rfl | ⟨rfl, h2⟩
          · obtain rfl : xr = true := by
              rcases hrw2 with h | ⟨-, h⟩
              · exact h
              · cases h
            clear hrw2 t0
            rcases tt with tt | tt
            · go_wp2_with fail
              go_roundw
              case rel => exact ⟨j + 1, hlt, rfl, Lib.hid hbq⟩
              case measure => exact HLm.out
            · go_wp2_with fail
              go_roundw
              case rel => exact ⟨j + 1, hlt, rfl, Lib.hid hbq⟩
              case measure => exact HLm.out
          · have t1 := t0 h2
            clear tt t0 h2
            rcases hrw2 with rfl | ⟨rfl, -⟩
            · go_wp2_with fail
              go_roundw
              case rel => exact ⟨j + 1, hlt, rfl, Lib.hid hbq⟩
              case measure => exact HLm.out
            · go_wp2_with fail
              go_roundw
              case rel => exact ⟨j + 1, hlt, rfl, Lib.hid hbq⟩
              case measure => exact HLm.out
        · have d2 : decide ((j : Int) < (nk : Int)) = false := decide_eq_false (by omega)
          go_wp2_with fail
          clear a0 a1 a2 a3 a4 d2 hlt hj FK FR
          go_loopw [14] (fun i wr => ∃ j : Nat, j ≤ nc ∧ i = .int .i64 j ∧ Hid (Below w8.heap.size w8 wr)) (fun i _ => nc - (intOf i).toNat)
          case atStart => exact ⟨0, Nat.zero_le _, rfl, HB⟩
          case round =>
            clear HB
            obtain ⟨j, hj, rfl, HB⟩ := hrel
            obtain ⟨a0, a1, a2, a3, a4⟩ := HN8.out.keep HB.out HL8.out
            by_cases hlt : j < nc
            · have d3 : decide ((j : Int) < (nc : Int)) = true := decide_eq_true (by omega)
              have HLm := Lib.hid (less_more nc j hlt)
              have hj0 : (0 : Int) ≤ (j : Int) := by omega
              have hjn : (j : Int) < (nc : Int) := by omega
              have hjl : j < cl.length := by rw [← HNc.out]; exact hlt
              have hin := FC.out _ (List.getElem_mem hjl)
              obtain ⟨bq, oq, hqc, -, u0⟩ := ss_cell (HO8.out.s.keep HB.out) j hjl
              have hl2 : 2 ≤ lA := by
                have h1 := List.length_pos_of_mem hin
                have h2 := HAl.out
                rw [List.length_cons] at h2
                omega
              have hc5n : ¬ c5 = 1 := by omega
              have hMl1 : M.length = lA - 1 := by
                have h2 := HAl.out
                rw [List.length_cons] at h2
                omega
              rw [show cl.getD j [] = cl[j] by simp [List.getD, hjl]] at u0
              obtain ⟨xk, hx⟩ : ∃ x, x = cl[j] := ⟨_, rfl⟩
              rw [← hx] at hin u0
              obtain ⟨T, hT⟩ : ∃ T : ByteArray, T = ⟨xk.toArray⟩ := ⟨_, rfl⟩
              have hTd : T.data.toList = xk := by rw [hT]
              have CI := Lib.hid (fun nn => by
                have hS := Ss.drop (HS8.out.keep (StrS.below_drewN HB.out nn)) 1 (by rw [HAl.out]; omega) c5 (by rw [HAl.out]; exact hlc5)
                unfold StrT.partAt at hS
                rw [if_neg hc5n] at hS
                have h := StrS.in_any (some ⟨b5, o5 + 1, none⟩) M (lA - 1) (c5 - 1) T xk (wr.drewN nn) hMl1 hS hTd (by omega)
                rwa [decide_eq_true hin] at h : ∀ nn, Calls Try.prog 20 #[.slice (some ⟨b5, o5 + 1, none⟩) (lA - 1) (c5 - 1), .string T] (wr.drewN nn) fun e w' => e = .returned (.bool true) ∧ w' = wr.drewN nn)
              rw [← hT] at u0
              subst hqc
              have hlA1 : (1 : Int) ≤ (lA : Int) := by omega
              clear hin hx hMl1 hTd hT
              go_wp2_with fail
              go_quiet ((go_at_call 20; with_reducible exact Calls.quiet_of_same (CI.out _)))
              have hbq := StrS.below_drewN HB.out nq
              clear u0 a0 a1 a2 a3 a4 CI
              generalize wr.drewN nq = wq at hbq ⊢
              clear hl2 hc5n hlA1
              go_wp2_with fail
              go_roundw
              case rel => exact ⟨j + 1, hlt, rfl, Lib.hid hbq⟩
              case measure => exact HLm.out
            · have d3 : decide ((j : Int) < (nc : Int)) = false := decide_eq_false (by omega)
              have d3n : decide (j < nc) = false := decide_eq_false hlt
              have hCC := HC8.out.keep HB.out
              have y0 := hCC.c0
              have y2 := hCC.c2
              obtain ⟨q1, q2, q3, q4⟩ := facts_at h56 Ht.out Hnm.out HSd.out Hct3.out
              obtain ⟨P, wt, su, pu, nb, cb, c2, e1, e2, e3, e4, e5, e6, e7, hx⟩ := ends k nk nc t ar aw Hw.out (by rw [Ht.out]; exact (kinds h56).2.2.1)
              rw [e1] at q1
              rw [e2] at q2
              rw [e3] at q3
              rw [e4] at q4
              have q5 := Hct2.out
              rw [e7] at q5
              have r2 := bytes_lit S [119, 97, 116, 99, 104]
              have r3 := bytes_lit S [115, 117, 98, 115, 99, 114, 105, 98, 101]
              have r4 := bytes_lit S [112, 117, 98, 108, 105, 115, 104]
              rw [q2] at r2
              rw [q3] at r3
              rw [q4] at r4
              have CW := Lib.hid (fun W (h : Below w8.heap.size w8 W) => writes_any qk kl nk ck (.int .i64 (k : Int)) (.bool ar) (.bool aw) (.slice qc nc cc) W HNk.out.symm (HO8.out.u.keep h) hKl (by rw [HNk.out]; exact HO8.out.c1) HO8.out.c2 HO8.out.c3)
              have HBf := Lib.hid (HB8.out.trans (HB.out.mono HB8.out.size))
              have CW2 := Lib.hid (CW.out wr HB.out)
              have e8 := (pos_cast nk).trans e5
              have e9 := (pos_cast nc).trans e6
              clear e1 e2 e3 e4 e7 hCC CW HN8 HO8 HC8 HS8 HL8 Hw Hct1 Hct2 Hct3 FC HB hj
              rcases hx with ⟨rfl, rfl, rfl, rfl, rfl, rfl, rfl, rfl, hc⟩ | ⟨rfl, rfl, rfl, rfl, rfl, rfl, rfl, rfl, hc⟩ | ⟨rfl, rfl, rfl, rfl, rfl, rfl, rfl, rfl, rfl⟩ | ⟨rfl, rfl, rfl, rfl, rfl, rfl, rfl, rfl, rfl⟩ | ⟨rfl, rfl, rfl, rfl, rfl, rfl, rfl, rfl, rfl⟩ | ⟨rfl, rfl, rfl, rfl, rfl, rfl, rfl, rfl, hc⟩ | ⟨rfl, rfl, rfl, rfl, rfl, rfl, rfl, rfl, rfl⟩
              · rcases hc with rfl | ⟨rfl, h5, h6⟩
                · go_wp2_with fail
                  go_ret
                  exact ⟨rfl, HBf.out⟩
                · have hnw := FW.out h5 h6
                  clear h5 h6
                  go_wp2_with fail
                  with_reducible refine CW2.out.mono ?_
                  rintro e w9 ⟨v, rfl, ⟨qw, cw, rfl, -⟩, hb9⟩
                  have HBg := Lib.hid (HBf.out.trans (hb9.mono HBf.out.size))
                  have d5 := pos_yes hnw
                  have d6 := (pos_cast _).trans d5
                  clear hb9 hnw
                  generalize (writesL kl).length = nw at d5 d6 ⊢
                  go_wp2_with fail
                  go_ret
                  exact ⟨rfl, HBg.out⟩
              · rcases hc with rfl | rfl
                · go_wp2_with fail
                  go_ret
                  exact ⟨rfl, HBf.out⟩
                · go_wp2_with fail
                  go_ret
                  exact ⟨rfl, HBf.out⟩
              · go_wp2_with fail
                go_ret
                exact ⟨rfl, HBf.out⟩
              · go_wp2_with fail
                go_ret
                exact ⟨rfl, HBf.out⟩
              · go_wp2_with fail
                go_ret
                exact ⟨rfl, HBf.out⟩
              · rcases hc with rfl | ⟨rfl, h5, h6⟩
                · go_wp2_with fail
                  go_ret
                  exact ⟨rfl, HBf.out⟩
                · have hnw := FW.out h5 h6
                  clear h5 h6
                  go_wp2_with fail
                  with_reducible refine CW2.out.mono ?_
                  rintro e w9 ⟨v, rfl, ⟨qw, cw, rfl, -⟩, hb9⟩
                  have HBg := Lib.hid (HBf.out.trans (hb9.mono HBf.out.size))
                  have d5 := pos_yes hnw
                  have d6 := (pos_cast _).trans d5
                  clear hb9 hnw
                  generalize (writesL kl).length = nw at d5 d6 ⊢
                  go_wp2_with fail
                  go_ret
                  exact ⟨rfl, HBg.out⟩
              · go_wp2_with fail
                go_ret
                exact ⟨rfl, HBf.out⟩

end Go.Proofs.Ytonoelpmmjnpeaa.usesWords
