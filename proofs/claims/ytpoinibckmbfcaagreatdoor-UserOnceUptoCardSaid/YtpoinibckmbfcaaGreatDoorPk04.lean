/-
  Packed by program.
-/
import Derived.Test.YtpoinibckmbfcaaGreatDoorPk03
namespace Go.Proofs.YtpoinibckmbfcaaGreatDoor.RuleT
open Go.RowKit Kit TableMath Low
open NumW (wordB)
set_option linter.unusedVariables false
set_option maxRecDepth 100000
structure RV where
 kind : Nat
 s : List UInt8
 r : Bool
 w : Bool
 mask : Nat
deriving DecidableEq
def noR : RV := ⟨0, [], false, false, 0⟩
def RV.agg (v : RV) : Value := .agg #[.int .u8 (v.kind : Int), .string ⟨v.s.toArray⟩, .bool v.r, .bool v.w, .int .u64 (v.mask : Int)]
def maskD (s : List UInt8) : Option Nat :=
 if s.take 1 = [64] then (if catB (s.drop 1) then some (catV (s.drop 1)) else none)
 else if findB (lowL s) = true ∧ lowL s = s then some (2 ^ (findV (lowL s)).toNat) else none
def patD (k : Nat) (s : List UInt8) (r w : Bool) : Option RV := if wordB s then some ⟨k, s, r, w, 0⟩ else none
def plainW : List (List UInt8) := [[111, 110], [111, 102, 102], [110, 111, 112, 97, 115, 115], [114, 101, 115, 101, 116, 112, 97, 115, 115], [114, 101, 115, 101, 116, 107, 101, 121, 115], [114, 101, 115, 101, 116, 99, 104, 97, 110, 110, 101, 108, 115], [114, 101, 115, 101, 116]]
def plainK : List Nat := [1, 2, 3, 4, 11, 13, 14]
def plainF (s : List UInt8) : Nat := plainW.findIdx fun c => decide (c = s)
def plainD (s : List UInt8) : Option Nat := plainK[plainF s]?
def allC : List UInt8 := [97, 108, 108, 99, 111, 109, 109, 97, 110, 100, 115]
def noC : List UInt8 := [110, 111, 99, 111, 109, 109, 97, 110, 100, 115]
def allKy : List UInt8 := [97, 108, 108, 107, 101, 121, 115]
def allCh : List UInt8 := [97, 108, 108, 99, 104, 97, 110, 110, 101, 108, 115]
def otherD (s : List UInt8) : List UInt8 := if s = allC then [43, 64, 97, 108, 108] else if s = noC then [45, 64, 97, 108, 108] else if s = allKy then [126, 42] else if s = allCh then [38, 42] else s
def marks : List (List UInt8) := [[62], [35], [33], [43], [45], [126], [37, 82, 126], [37, 87, 126], [37, 82, 87, 126], [38]]
def markF (s : List UInt8) : Nat := marks.findIdx fun m => decide (s.take m.length = m)
def markD (k : Nat) (l : List UInt8) : Option RV :=
 match k with
 | 0 => some ⟨5, l, false, false, 0⟩
 | 1 => if MacM.rightB l then some ⟨6, l, false, false, 0⟩ else none
 | 2 => if MacM.rightB l then some ⟨7, l, false, false, 0⟩ else none
 | 3 => (maskD l).map fun m => ⟨8, [], false, false, m⟩
 | 4 => (maskD l).map fun m => ⟨9, [], false, false, m⟩
 | 5 => patD 10 l true true
 | 6 => patD 10 l true false
 | 7 => patD 10 l false true
 | 8 => patD 10 l true true
 | 9 => patD 12 l false false
 | _ => none
def ruleO (t : List UInt8) : Option RV :=
 match plainD t with
 | some k => some ⟨k, [], false, false, 0⟩
 | none => markD (markF t) (t.drop (marks.getD (markF t) []).length)
def ruleD (s : List UInt8) : Option RV := ruleO (otherD s)
theorem plain_len : plainW.length = 7 := rfl
theorem plainF_le (s : List UInt8) : plainF s ≤ 7 := by
 have := List.findIdx_le_length (xs := plainW) (p := fun c => decide (c = s))
 rwa [plain_len] at this
theorem idx_at {α : Type} (L : List α) (p : α → Bool) (k : Nat) (hk : k < L.length) (hle : k ≤ L.findIdx p) (h : p (L[k]'hk) = true) : L.findIdx p = k := by
 apply Nat.le_antisymm
 · refine Nat.le_of_not_lt fun hlt => ?_
   have := List.not_of_lt_findIdx hlt
   rw [h] at this
   exact Bool.noConfusion this
 · exact hle
theorem idx_next {α : Type} (L : List α) (p : α → Bool) (k : Nat) (hk : k < L.length) (hle : k ≤ L.findIdx p) (h : p (L[k]'hk) = false) : k + 1 ≤ L.findIdx p := by
 refine Nat.succ_le_of_lt (Nat.lt_of_le_of_ne hle fun e => ?_)
 have h2 := List.findIdx_getElem (xs := L) (p := p) (w := by rw [← e]; exact hk)
 simp only [← e] at h2
 rw [h] at h2
 exact Bool.noConfusion h2
theorem plain_next {s : List UInt8} (k : Nat) (hk : k < 7) (hle : k ≤ plainF s) (h : plainW[k]'hk ≠ s) : k + 1 ≤ plainF s :=
 idx_next plainW _ k hk hle (decide_eq_false h)
theorem plain_none {s : List UInt8} (h : 7 ≤ plainF s) : plainD s = none := by
 unfold plainD
 exact List.getElem?_eq_none h
theorem marks_len : marks.length = 10 := rfl
theorem mark_at {s : List UInt8} (k : Nat) (hk : k < 10) (hle : k ≤ markF s) (h : s.take (marks[k]'hk).length = marks[k]'hk) : markF s = k :=
 idx_at marks _ k hk hle (decide_eq_true h)
theorem mark_next {s : List UInt8} (k : Nat) (hk : k < 10) (hle : k ≤ markF s) (h : s.take (marks[k]'hk).length ≠ marks[k]'hk) : k + 1 ≤ markF s :=
 idx_next marks _ k hk hle (decide_eq_false h)
theorem mark_none {s : List UInt8} (hp : plainD s = none) (h : 10 ≤ markF s) : ruleO s = none := by
 unfold ruleO
 rw [hp]
 show markD (markF s) _ = none
 obtain ⟨n, e⟩ : ∃ n, markF s = n + 10 := ⟨markF s - 10, by omega⟩
 rw [e]
 rfl
theorem rule_mark {s : List UInt8} (k : Nat) (hk : k < 10) (hp : plainD s = none) (hm : markF s = k) : ruleO s = markD k (s.drop (marks[k]'hk).length) := by
 unfold ruleO
 rw [hp, hm]
 show markD k _ = _
 rw [List.getD_eq_getElem?_getD, List.getElem?_eq_getElem (show k < marks.length from hk)]
 rfl
theorem other_of {c : UInt8} {s : List UInt8} (h1 : c ≠ 97) (h2 : c ≠ 110) : otherD (c :: s) = c :: s := by
 unfold otherD allC noC allKy allCh
 rw [if_neg (fun e => h1 (List.cons.inj e).1), if_neg (fun e => h2 (List.cons.inj e).1), if_neg (fun e => h1 (List.cons.inj e).1), if_neg (fun e => h1 (List.cons.inj e).1)]
theorem plain_of {c : UInt8} {s : List UInt8} (h1 : c ≠ 111) (h2 : c ≠ 110) (h3 : c ≠ 114) : plainD (c :: s) = none := by
 apply plain_none
 have h0 : 0 ≤ plainF (c :: s) := Nat.zero_le _
 have a1 := plain_next 0 (by decide) h0 (fun e => h1 (List.cons.inj e).1.symm)
 have a2 := plain_next 1 (by decide) a1 (fun e => h1 (List.cons.inj e).1.symm)
 have a3 := plain_next 2 (by decide) a2 (fun e => h2 (List.cons.inj e).1.symm)
 have a4 := plain_next 3 (by decide) a3 (fun e => h3 (List.cons.inj e).1.symm)
 have a5 := plain_next 4 (by decide) a4 (fun e => h3 (List.cons.inj e).1.symm)
 have a6 := plain_next 5 (by decide) a5 (fun e => h3 (List.cons.inj e).1.symm)
 exact plain_next 6 (by decide) a6 (fun e => h3 (List.cons.inj e).1.symm)
theorem ruleD_of {c : UInt8} {s : List UInt8} (k : Nat) (hk : k < 10) (h1 : c ≠ 97) (h2 : c ≠ 110) (h3 : c ≠ 111) (h4 : c ≠ 114) (hm : markF (c :: s) = k) : ruleD (c :: s) = markD k ((c :: s).drop (marks[k]'hk).length) := by
 unfold ruleD
 rw [other_of h1 h2]
 exact rule_mark k hk (plain_of h3 h2 h4) hm
theorem mark1 (c : UInt8) (s : List UInt8) (k : Nat) (hk : k < 10) (hc : marks[k]'hk = [c]) (h0 : ∀ j (hj : j < k), (marks[j]'(Nat.lt_trans hj hk)).head? ≠ some c) : markF (c :: s) = k := by
 have go : ∀ j, j ≤ k → j ≤ markF (c :: s) := by
  intro j
  induction j with
  | zero => exact fun _ => Nat.zero_le _
  | succ j ih =>
    intro hj
    refine mark_next j (by omega) (ih (by omega)) fun e => ?_
    refine h0 j (by omega) ?_
    have hl : 0 < (marks[j]'(by have := marks_len; omega)).length := by
     have : ∀ m ∈ marks, 0 < m.length := by decide
     exact this _ (List.getElem_mem _)
    rw [← e]
    rw [List.head?_take]
    rw [if_neg (by omega)]
    rfl
 exact mark_at k hk (go k (Nat.le_refl k)) (by rw [hc]; rfl)
theorem rule_pass (s : List UInt8) : ruleD (62 :: s) = some ⟨5, s, false, false, 0⟩ :=
 ruleD_of 0 (by decide) (by decide) (by decide) (by decide) (by decide) (mark1 62 s 0 (by decide) rfl (by decide))
theorem rule_hash (s : List UInt8) : ruleD (35 :: s) = if MacM.rightB s then some ⟨6, s, false, false, 0⟩ else none :=
 ruleD_of 1 (by decide) (by decide) (by decide) (by decide) (by decide) (mark1 35 s 1 (by decide) rfl (by decide))
theorem rule_unhash (s : List UInt8) : ruleD (33 :: s) = if MacM.rightB s then some ⟨7, s, false, false, 0⟩ else none :=
 ruleD_of 2 (by decide) (by decide) (by decide) (by decide) (by decide) (mark1 33 s 2 (by decide) rfl (by decide))
theorem rule_add (s : List UInt8) : ruleD (43 :: s) = (maskD s).map fun m => ⟨8, [], false, false, m⟩ :=
 ruleD_of 3 (by decide) (by decide) (by decide) (by decide) (by decide) (mark1 43 s 3 (by decide) rfl (by decide))
theorem rule_sub (s : List UInt8) : ruleD (45 :: s) = (maskD s).map fun m => ⟨9, [], false, false, m⟩ :=
 ruleD_of 4 (by decide) (by decide) (by decide) (by decide) (by decide) (mark1 45 s 4 (by decide) rfl (by decide))
theorem rule_both (s : List UInt8) : ruleD (126 :: s) = patD 10 s true true :=
 ruleD_of 5 (by decide) (by decide) (by decide) (by decide) (by decide) (mark1 126 s 5 (by decide) rfl (by decide))
theorem rule_chan (s : List UInt8) : ruleD (38 :: s) = patD 12 s false false :=
 ruleD_of 9 (by decide) (by decide) (by decide) (by decide) (by decide) (mark1 38 s 9 (by decide) rfl (by decide))
theorem pct_r (s : List UInt8) : markF (37 :: 82 :: 126 :: s) = 6 := by
 simp [markF, marks, List.findIdx_cons]
theorem pct_w (s : List UInt8) : markF (37 :: 87 :: 126 :: s) = 7 := by
 simp [markF, marks, List.findIdx_cons]
theorem pct_rw (s : List UInt8) : markF (37 :: 82 :: 87 :: 126 :: s) = 8 := by
 simp [markF, marks, List.findIdx_cons]
theorem rule_read (s : List UInt8) : ruleD (37 :: 82 :: 126 :: s) = patD 10 s true false :=
 ruleD_of 6 (by decide) (by decide) (by decide) (by decide) (by decide) (pct_r s)
theorem rule_write (s : List UInt8) : ruleD (37 :: 87 :: 126 :: s) = patD 10 s false true :=
 ruleD_of 7 (by decide) (by decide) (by decide) (by decide) (by decide) (pct_w s)
theorem rule_rw (s : List UInt8) : ruleD (37 :: 82 :: 87 :: 126 :: s) = patD 10 s true true :=
 ruleD_of 8 (by decide) (by decide) (by decide) (by decide) (by decide) (pct_rw s)
theorem mask_all : (List.range 56).all (fun id => decide (maskD (cmdAt id).name = some (2 ^ id) ∧ maskD ((cmdAt id).name ++ [120]) = none ∧ (maskD (64 :: (cmdAt id).name)).isSome = catB (cmdAt id).name)) = true := by decide +kernel
theorem mask_cmd (id : Nat) (h : id < 56) : maskD (cmdAt id).name = some (2 ^ id) ∧ maskD ((cmdAt id).name ++ [120]) = none ∧ (maskD (64 :: (cmdAt id).name)).isSome = catB (cmdAt id).name := by
 have := List.all_eq_true.1 mask_all id (List.mem_range.2 h)
 simpa using this
theorem mask_cat (s : List UInt8) : maskD (64 :: s) = if catB s then some (catV s) else none := rfl
theorem rule_words : (List.range 7).all (fun i => decide (ruleD (plainW.getD i []) = some ⟨plainK.getD i 0, [], false, false, 0⟩ ∧ ruleD (plainW.getD i [] ++ [32]) = none)) = true := by decide +kernel
end Go.Proofs.YtpoinibckmbfcaaGreatDoor.RuleT
