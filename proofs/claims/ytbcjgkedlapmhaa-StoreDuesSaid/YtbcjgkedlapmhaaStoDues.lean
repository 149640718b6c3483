/-
  What the law StoreDues does to a store: pure.
-/
import Derived.Test.YtbcjgkedlapmhaaStoOps
namespace Go.Proofs.Ytbcjgkedlapmhaa.StoT
open ValT BOrd
set_option linter.unusedVariables false
set_option maxRecDepth 100000

/-- How a store stands: its entries, its time, and how many things were done. -/
structure Sh (L : List (En V)) (t n : Nat) (D : Sd V) : Prop where
  L : D.L = L
  t : D.time = t
  n : D.n = n
def en (c : UInt8) (d : V) (a : Int) (on : Bool) : En V := ⟨[c], d, a, on, false⟩
section
variable {d : V} {D : Sd V} {t n : Nat} {L : List (En V)}
theorem Sh.put (h : Sh L t n D) (k : List UInt8) (hk : d.kind ≠ 0) : Sh (ins (newE k d (lookE k (letL k L))) (rm k L)) t (n + 1) (putAny k d D) := by
  obtain ⟨rfl, rfl, rfl⟩ := h
  unfold putAny
  rw [if_neg hk]
  exact ⟨rfl, rfl, rfl⟩
theorem Sh.gone (h : Sh L t n D) (k : List UInt8) (hk : d.kind = 0) : Sh (if (lookE k (letL k L)).isSome then rm k L else letL k L) t (n + 1) (putAny k d D) := by
  obtain ⟨rfl, rfl, rfl⟩ := h
  unfold putAny goneS
  rw [if_pos hk]
  split <;> exact ⟨rfl, rfl, rfl⟩
theorem Sh.due (h : Sh L t n D) (k : List UInt8) (a : Int) (on : Bool) : Sh (if (lookE k (letL k L)).isSome then (if on = true ∧ a ≤ (t : Int) then rm k L else up k (dueE a on) L) else letL k L) t (n + 1) (setDueS k a on D) := by
  obtain ⟨rfl, rfl, rfl⟩ := h
  unfold setDueS
  split
  · split <;> exact ⟨rfl, rfl, rfl⟩
  · exact ⟨rfl, rfl, rfl⟩
theorem Sh.get (h : Sh L t n D) (k : List UInt8) : Sh (letL k L) t (n + 1) (getS k D) := by
  obtain ⟨rfl, rfl, rfl⟩ := h
  exact ⟨rfl, rfl, rfl⟩
theorem Sh.to {L' : List (En V)} (h : Sh L t n D) (e : L = L') : Sh L' t n D := e ▸ h
end
def W1 (d : V) : Sd V := putAny [97] d s0
def W2 (d : V) : Sd V := putAny [98] d (W1 d)
def W3 (d : V) : Sd V := putAny [99] d (W2 d)
def W4 (d : V) (a : Int) : Sd V := setDueS [97] a true (W3 d)
def W5 (d : V) (a b : Int) : Sd V := setDueS [97] b true (W4 d a)
def W6 (d : V) (a b : Int) : Sd V := setDueS [98] a true (W5 d a b)
def W7 (d : V) (a b : Int) : Sd V := setDueS [98] a false (W6 d a b)
def W8 (d : V) (a b : Int) : Sd V := setDueS [99] a true (W7 d a b)
def W9 (d : V) (a b : Int) : Sd V := putAny [99] v0 (W8 d a b)
def W10 (d : V) (a b : Int) : Sd V := putAny [99] d (W9 d a b)
theorem w3_sh {d : V} (hd : d.kind ≠ 0) : Sh [en 97 d 0 false] 0 1 (W1 d) ∧ Sh [en 97 d 0 false, en 98 d 0 false] 0 2 (W2 d) ∧ Sh [en 97 d 0 false, en 98 d 0 false, en 99 d 0 false] 0 3 (W3 d) := by
  have h0 : Sh [] 0 0 (s0 : Sd V) := ⟨rfl, rfl, rfl⟩
  have h1 := (h0.put [97] hd).to (L' := [en 97 d 0 false]) rfl
  have h2 := (h1.put [98] hd).to (L' := [en 97 d 0 false, en 98 d 0 false]) rfl
  exact ⟨h1, h2, (h2.put [99] hd).to rfl⟩
theorem w10_sh {d : V} (hd : d.kind ≠ 0) {a b : Int} (ha : 0 < a) (hb : 0 < b) :
    Sh [en 97 d a true, en 98 d 0 false, en 99 d 0 false] 0 4 (W4 d a) ∧ Sh [en 97 d b true, en 98 d 0 false, en 99 d 0 false] 0 5 (W5 d a b) ∧ Sh [en 97 d b true, en 98 d a true, en 99 d 0 false] 0 6 (W6 d a b) ∧
    Sh [en 97 d b true, en 98 d 0 false, en 99 d 0 false] 0 7 (W7 d a b) ∧ Sh [en 97 d b true, en 98 d 0 false, en 99 d a true] 0 8 (W8 d a b) ∧ Sh [en 97 d b true, en 98 d 0 false] 0 9 (W9 d a b) ∧ Sh [en 97 d b true, en 98 d 0 false, en 99 d 0 false] 0 10 (W10 d a b) := by
  obtain ⟨-, -, h3⟩ := w3_sh hd
  have na : ¬ (true = true ∧ a ≤ ((0 : Nat) : Int)) := fun h => by have := h.2; omega
  have nb : ¬ (true = true ∧ b ≤ ((0 : Nat) : Int)) := fun h => by have := h.2; omega
  have nf : ¬ (false = true ∧ a ≤ ((0 : Nat) : Int)) := fun h => by cases h.1
  have h4 := (h3.due [97] a true).to (L' := [en 97 d a true, en 98 d 0 false, en 99 d 0 false]) (by rw [if_pos (by rfl), if_neg na]; rfl)
  have h5 := (h4.due [97] b true).to (L' := [en 97 d b true, en 98 d 0 false, en 99 d 0 false]) (by rw [if_pos (by rfl), if_neg nb]; rfl)
  have h6 := (h5.due [98] a true).to (L' := [en 97 d b true, en 98 d a true, en 99 d 0 false]) (by rw [if_pos (by rfl), if_neg na]; rfl)
  have h7 := (h6.due [98] a false).to (L' := [en 97 d b true, en 98 d 0 false, en 99 d 0 false]) (by rw [if_pos (by rfl), if_neg nf]; rfl)
  have h8 := (h7.due [99] a true).to (L' := [en 97 d b true, en 98 d 0 false, en 99 d a true]) (by rw [if_pos (by rfl), if_neg na]; rfl)
  have h9 := (h8.gone (d := v0) [99] rfl).to (L' := [en 97 d b true, en 98 d 0 false]) rfl
  exact ⟨h4, h5, h6, h7, h8, h9, (h9.put [99] hd).to rfl⟩
def W13 (d : V) (a b : Int) : Sd V := getS [99] (getS [98] (getS [97] (W10 d a b)))
def W14 (d : V) (a b : Int) (m : Nat) : Sd V := tickS (m : Int) (W13 d a b)
theorem due_facts {d : V} (hd : d.kind ≠ 0) {a b : Int} (ha : 0 < a) (hb : 0 < b) : dueV [97] (W10 d a b).L = (b, true) ∧ (dueV [98] (getS [97] (W10 d a b)).L).2 = false ∧ (dueV [99] (getS [98] (getS [97] (W10 d a b))).L).2 = false ∧ (W10 d a b).n = 10 ∧ (W13 d a b).n = 13 ∧ Sh [en 97 d b true, en 98 d 0 false, en 99 d 0 false] 0 13 (W13 d a b) := by
  obtain ⟨-, -, -, -, -, -, h⟩ := w10_sh hd ha hb
  have h11 := (h.get [97]).to (L' := [en 97 d b true, en 98 d 0 false, en 99 d 0 false]) rfl
  have h12 := (h11.get [98]).to (L' := [en 97 d b true, en 98 d 0 false, en 99 d 0 false]) rfl
  have h13 := (h12.get [99]).to (L' := [en 97 d b true, en 98 d 0 false, en 99 d 0 false]) rfl
  exact ⟨by rw [h.L]; rfl, by rw [h11.L]; rfl, by rw [h12.L]; rfl, h.n, h13.n, h13⟩
theorem get_facts {d : V} (hd : d.kind ≠ 0) {a b : Int} (ha : 0 < a) (hb : 0 < b) {m : Nat} (hm : m ≤ 2000) : (W14 d a b m).n = 14 ∧
    (getV [97] (W14 d a b m).L).getD v0 = (if (m : Int) < b then d else v0) ∧ (getV [98] (getS [97] (W14 d a b m)).L).getD v0 = d ∧ (getV [99] (getS [98] (getS [97] (W14 d a b m))).L).getD v0 = d := by
  obtain ⟨-, -, -, -, hn, h⟩ := due_facts hd ha hb
  have hT : tickT (m : Int) (W13 d a b).time = m := by
    rw [h.t]
    unfold tickT most
    omega
  have hL : (W14 d a b m).L = [tickE m (en 97 d b true), en 98 d 0 false, en 99 d 0 false] := by
    show (W13 d a b).L.map (tickE (tickT (m : Int) (W13 d a b).time)) = _
    rw [hT, h.L]
    rfl
  have hf : falls m (en 97 d b true) = decide (b ≤ (m : Int)) := by
    unfold falls en
    simp
  refine ⟨by show (W13 d a b).n + 1 = 14; rw [hn], ?_⟩
  by_cases hlt : (m : Int) < b
  · have e : tickE m (en 97 d b true) = en 97 d b true := by
      unfold tickE
      rw [hf, decide_eq_false (by omega)]
      rfl
    rw [e] at hL
    have hl1 : letL [97] (W14 d a b m).L = [en 97 d b true, en 98 d 0 false, en 99 d 0 false] := by rw [hL]; rfl
    refine ⟨by rw [hL, if_pos hlt]; rfl, ?_, ?_⟩
    · show (getV [98] (letL [97] (W14 d a b m).L)).getD v0 = d
      rw [hl1]; rfl
    · show (getV [99] (letL [98] (letL [97] (W14 d a b m).L))).getD v0 = d
      rw [hl1]; rfl
  · have e : tickE m (en 97 d b true) = ⟨[97], d, b, true, true⟩ := by
      unfold tickE
      rw [hf, decide_eq_true (by omega)]
      rfl
    rw [e] at hL
    have hl1 : letL [97] (W14 d a b m).L = [en 98 d 0 false, en 99 d 0 false] := by rw [hL]; rfl
    refine ⟨by rw [hL, if_neg hlt]; rfl, ?_, ?_⟩
    · show (getV [98] (letL [97] (W14 d a b m).L)).getD v0 = d
      rw [hl1]; rfl
    · show (getV [99] (letL [98] (letL [97] (W14 d a b m).L))).getD v0 = d
      rw [hl1]; rfl

end Go.Proofs.Ytbcjgkedlapmhaa.StoT
