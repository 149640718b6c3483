/-
  What the law StoreTimes does to a store: pure.
-/
import Derived.Test.YtbcjgkedlapmhaaStoOps
namespace Go.Proofs.Ytbcjgkedlapmhaa.StoT
open ValT BOrd
set_option linter.unusedVariables false
set_option maxRecDepth 100000

def vx : V := ⟨1, [120], [], [], []⟩
def vy : V := ⟨1, [121], [], [], []⟩
def ea (a : Int) : En V := ⟨[97], vy, a, true, false⟩
def eb : En V := ⟨[98], vx, 0, false, false⟩
def T2 : Sd V := putAny [98] vx (putAny [97] vx s0)
def T4 (a : Int) : Sd V := setDueS [99] a true (setDueS [97] a true T2)
def T5 (a : Int) : Sd V := putAny [97] vy (T4 a)
theorem t3_pos {a : Int} (h : 0 < a) : setDueS [97] a true T2 = ⟨[⟨[97], vx, a, true, false⟩, eb], cnt [97] T2.C, 0, 3⟩ := by
  unfold setDueS
  rw [if_pos (by rfl), if_neg (fun h2 => by have := h2.2; show False; change a ≤ 0 at this; omega)]
  rfl
theorem t_facts : setDueB [97] T2 = true ∧ (∀ a, 0 ≤ a → setDueB [99] (setDueS [97] a true T2) = false) ∧ T2.n = 2 ∧ (∀ a, 0 ≤ a → (setDueS [97] a true T2).n = 3) ∧ (∀ a, 0 ≤ a → (T4 a).n = 4) ∧ ∀ a, 0 ≤ a → (T5 a).n = 5 := by
  have ways : ∀ a : Int, 0 ≤ a → 0 < a ∨ a = 0 := fun a h => by omega
  refine ⟨rfl, fun a ha => ?_, rfl, fun a ha => ?_, fun a ha => ?_, fun a ha => ?_⟩
  · rcases ways a ha with h | rfl
    · rw [t3_pos h]; rfl
    · rfl
  · rcases ways a ha with h | rfl
    · rw [t3_pos h]
    · rfl
  · unfold T4
    rcases ways a ha with h | rfl
    · rw [t3_pos h]; rfl
    · rfl
  · unfold T5 T4
    rcases ways a ha with h | rfl
    · rw [t3_pos h]; rfl
    · rfl
/-- How it stands at a time. -/
structure At (a : Int) (t : Nat) (D : Sd V) : Prop where
  L : D.L = if (t : Int) < a then [ea a, eb] else [eb]
  time : D.time = t
theorem t5_pos {a : Int} (h : 0 < a) : At a 0 (T5 a) := by
  unfold T5 T4
  rw [t3_pos h]
  refine ⟨?_, rfl⟩
  rw [if_pos (by simpa using h)]
  rfl
theorem t5_zero : (dueV [97] (T5 0).L).2 = false ∧ (getV [97] (getS [97] (T5 0)).L).getD v0 = vy := ⟨rfl, rfl⟩
theorem tick_at {a : Int} {t m : Nat} {D : Sd V} (h : At a t D) (hm : m ≤ 4095) (ht : t ≤ 1000000) : tickT (m : Int) D.time = t + m ∧ tickT (-(m : Int)) (t + m) = t + m := by
  rw [h.time]
  unfold tickT most
  omega
theorem ea_falls (a : Int) (t : Nat) : falls t (ea a) = decide (a ≤ (t : Int)) := by
  unfold falls ea
  simp
theorem eb_tick (t : Nat) : tickE t eb = eb := rfl
def ea' (a : Int) : En V := ⟨[97], vy, a, true, true⟩
theorem ea_tick (a : Int) (t : Nat) : tickE t (ea a) = if a ≤ (t : Int) then ea' a else ea a := by
  unfold tickE
  rw [ea_falls]
  by_cases h : a ≤ (t : Int) <;> simp [h, ea, ea']
theorem ea'_tick (a : Int) (t : Nat) : tickE t (ea' a) = ea' a := by
  unfold tickE falls ea'
  simp
def D2of (m : Nat) (D : Sd V) : Sd V := tickS (-(m : Int)) (tickS (m : Int) D)
theorem d2_time {a : Int} {t m : Nat} {D : Sd V} (h : At a t D) (hm : m ≤ 4095) (ht : t ≤ 1000000) : (D2of m D).time = t + m := by
  obtain ⟨e1, e2⟩ := tick_at h hm ht
  show tickT (-(m : Int)) (tickT (m : Int) D.time) = t + m
  rw [e1, e2]
theorem d2_L {a : Int} {t m : Nat} {D : Sd V} (h : At a t D) (hm : m ≤ 4095) (ht : t ≤ 1000000) : (D2of m D).L = if (t : Int) < a then (if ((t + m : Nat) : Int) < a then [ea a, eb] else [ea' a, eb]) else [eb] := by
  obtain ⟨e1, e2⟩ := tick_at h hm ht
  show (D.L.map (tickE (tickT (m : Int) D.time))).map (tickE (tickT (-(m : Int)) (tickT (m : Int) D.time))) = _
  rw [e1, e2, h.L]
  by_cases h1 : (t : Int) < a
  · rw [if_pos h1, if_pos h1]
    by_cases h2 : ((t + m : Nat) : Int) < a
    · rw [if_pos h2]
      have h3 : ¬ a ≤ ((t + m : Nat) : Int) := by omega
      simp only [List.map_cons, List.map_nil, ea_tick, if_neg h3, eb_tick]
    · rw [if_neg h2]
      have h3 : a ≤ ((t + m : Nat) : Int) := by omega
      simp only [List.map_cons, List.map_nil, ea_tick, if_pos h3, ea'_tick, eb_tick]
  · rw [if_neg h1, if_neg h1]
    rfl
structure Round (a : Int) (t' : Nat) (D2 : Sd V) : Prop where
  due : (dueV [97] D2.L).2 = decide ((t' : Int) < a)
  now : (getS [97] D2).time = t'
  ga : (getV [97] (getS [97] D2).L).getD v0 = if (t' : Int) < a then vy else v0
  gb : (getV [98] (getS [97] (getS [97] D2)).L).getD v0 = vx
  keys : (keysS (getS [98] (getS [97] (getS [97] D2))).L).length = if (t' : Int) < a then 2 else 1
  next : At a t' (getS [98] (getS [97] (getS [97] D2)))
  n : (getS [98] (getS [97] (getS [97] D2))).n = D2.n + 3
theorem round_at {a : Int} {t m : Nat} {D : Sd V} (h : At a t D) (hm : m ≤ 4095) (ht : t ≤ 1000000) : Round a (t + m) (D2of m D) := by
  have hL := d2_L h hm ht
  have hT := d2_time h hm ht
  by_cases h2 : ((t + m : Nat) : Int) < a
  · have h1 : (t : Int) < a := by omega
    rw [if_pos h1, if_pos h2] at hL
    have hl : letL [97] (D2of m D).L = [ea a, eb] := by rw [hL]; rfl
    have hl2 : letL [97] [ea a, eb] = [ea a, eb] := rfl
    have hl3 : letL [98] [ea a, eb] = [ea a, eb] := rfl
    refine ⟨?_, hT, ?_, ?_, ?_, ⟨?_, hT⟩, rfl⟩
    · rw [hL, decide_eq_true h2]; rfl
    · show (getV [97] (letL [97] (D2of m D).L)).getD v0 = _
      rw [hl, if_pos h2]; rfl
    · show (getV [98] (letL [97] (letL [97] (D2of m D).L))).getD v0 = _
      rw [hl, hl2]; rfl
    · show (keysS (letL [98] (letL [97] (letL [97] (D2of m D).L)))).length = _
      rw [hl, hl2, hl3, if_pos h2]; rfl
    · show letL [98] (letL [97] (letL [97] (D2of m D).L)) = _
      rw [hl, hl2, hl3, if_pos h2]
  · have hl : letL [97] (D2of m D).L = [eb] := by
      by_cases h1 : (t : Int) < a
      · rw [if_pos h1, if_neg h2] at hL
        rw [hL]; rfl
      · rw [if_neg h1] at hL
        rw [hL]; rfl
    have hd : dueV [97] (D2of m D).L = (0, false) := by
      unfold dueV
      rw [hl]; rfl
    have hl2 : letL [97] [eb] = [eb] := rfl
    have hl3 : letL [98] [eb] = [eb] := rfl
    refine ⟨?_, hT, ?_, ?_, ?_, ⟨?_, hT⟩, rfl⟩
    · rw [hd, decide_eq_false h2]
    · show (getV [97] (letL [97] (D2of m D).L)).getD v0 = _
      rw [hl, if_neg h2]; rfl
    · show (getV [98] (letL [97] (letL [97] (D2of m D).L))).getD v0 = _
      rw [hl, hl2]; rfl
    · show (keysS (letL [98] (letL [97] (letL [97] (D2of m D).L)))).length = _
      rw [hl, hl2, hl3, if_neg h2]; rfl
    · show letL [98] (letL [97] (letL [97] (D2of m D).L)) = _
      rw [hl, hl2, hl3, if_neg h2]

end Go.Proofs.Ytbcjgkedlapmhaa.StoT
