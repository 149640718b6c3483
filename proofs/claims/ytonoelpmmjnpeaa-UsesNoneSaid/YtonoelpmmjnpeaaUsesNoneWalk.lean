/-
  UsesNone: what is no command of a store needs no key, but what watches; channels are needed by two commands alone; three commands are of all keys.
-/
import Derived.Test.YtonoelpmmjnpeaaUseLaw
import Derived.Test.YtonoelpmmjnpeaaUseFacts
namespace Go.Proofs.Ytonoelpmmjnpeaa.usesNone
open Go.RowKit Kit StrT UseT TableMath Low UseM RefU UseL
set_option linter.unusedVariables false
set_option maxRecDepth 100000
-- ASKS: 

/-- What each command's need is, told by its place. -/
theorem ways (k : Nat) (h : k < 56) (nk nc : Nat) (ar aw : Bool) (h1 : 0 < nk ↔ ((k < 43 ∧ k ≠ 40 ∧ k ≠ 41 ∧ k ≠ 42) ∨ k = 50)) (h2 : ar = true ↔ (k = 40 ∨ k = 41)) (h3 : aw = true ↔ k = 42) (h4 : 0 < nc ↔ (k = 52 ∨ k = 54)) :
    (k = 40 ∧ nk = 0 ∧ ar = true ∧ aw = false ∧ nc = 0) ∨ (k = 41 ∧ nk = 0 ∧ ar = true ∧ aw = false ∧ nc = 0) ∨ (k = 42 ∧ nk = 0 ∧ ar = false ∧ aw = true ∧ nc = 0) ∨ (k = 50 ∧ 0 < nk ∧ ar = false ∧ aw = false ∧ nc = 0) ∨
    (k = 52 ∧ nk = 0 ∧ ar = false ∧ aw = false ∧ 0 < nc) ∨ (k = 54 ∧ nk = 0 ∧ ar = false ∧ aw = false ∧ 0 < nc) ∨ (k < 43 ∧ k ≠ 40 ∧ k ≠ 41 ∧ k ≠ 42 ∧ 0 < nk ∧ ar = false ∧ aw = false ∧ nc = 0) ∨ (43 ≤ k ∧ k ≠ 50 ∧ k ≠ 52 ∧ k ≠ 54 ∧ nk = 0 ∧ ar = false ∧ aw = false ∧ nc = 0) := by
  have f1 : ¬ (k = 40 ∨ k = 41) → ar = false := fun hn => by
    cases ar with
    | false => rfl
    | true => exact absurd (h2.1 rfl) hn
  have f2 : ¬ k = 42 → aw = false := fun hn => by
    cases aw with
    | false => rfl
    | true => exact absurd (h3.1 rfl) hn
  by_cases a0 : k = 40
  · exact Or.inl ⟨a0, by omega, h2.2 (Or.inl a0), f2 (by omega), by omega⟩
  by_cases a1 : k = 41
  · exact Or.inr (Or.inl ⟨a1, by omega, h2.2 (Or.inr a1), f2 (by omega), by omega⟩)
  by_cases a2 : k = 42
  · exact Or.inr (Or.inr (Or.inl ⟨a2, by omega, f1 (by omega), h3.2 a2, by omega⟩))
  by_cases a3 : k = 50
  · exact Or.inr (Or.inr (Or.inr (Or.inl ⟨a3, by omega, f1 (by omega), f2 (by omega), by omega⟩)))
  by_cases a4 : k = 52
  · exact Or.inr (Or.inr (Or.inr (Or.inr (Or.inl ⟨a4, by omega, f1 (by omega), f2 (by omega), by omega⟩))))
  by_cases a5 : k = 54
  · exact Or.inr (Or.inr (Or.inr (Or.inr (Or.inr (Or.inl ⟨a5, by omega, f1 (by omega), f2 (by omega), by omega⟩)))))
  by_cases a6 : k < 43
  · exact Or.inr (Or.inr (Or.inr (Or.inr (Or.inr (Or.inr (Or.inl ⟨a6, by omega, by omega, by omega, by omega, f1 (by omega), f2 (by omega), by omega⟩))))))
  · exact Or.inr (Or.inr (Or.inr (Or.inr (Or.inr (Or.inr (Or.inr ⟨by omega, by omega, by omega, by omega, by omega, f1 (by omega), f2 (by omega), by omega⟩))))))

set_option maxHeartbeats 8000000 in
theorem walk (a : Int) (q : Option Addr) (L : List (List UInt8)) (n c : Nat) (w : World) (ha0 : 0 ≤ a) (ha1 : a ≤ 255) (hL : L.length = n) (h : Ss w q L) (hz : ∀ s ∈ L, s.length ≤ 140737488351232) (hc : n ≤ c) (hcm : c ≤ 9223372036854775807) (hnil : q = none → c = 0) :
    Calls Try.prog 7 #[.int .u8 a, .slice q n c] w fun e w' => e = .returned (.bool true) ∧ Below w.heap.size w w' := by
  have C0 := Lib.hid (shown_any w)
  obtain ⟨k, hk⟩ : ∃ k : Nat, a % 56 = (k : Int) := ⟨(a % 56).toNat, by omega⟩
  have hk56 : k < 56 := by omega
  obtain ⟨M, hM⟩ : ∃ M, M = L.take 12 := ⟨_, rfl⟩
  obtain ⟨m, hm⟩ : ∃ m, m = min n 12 := ⟨_, rfl⟩
  have hMl : M.length = m := by rw [hM, hm, List.length_take, hL]; omega
  have hMs : Ss w q M := by rw [hM]; exact h.take 12
  have hMz : ∀ s ∈ M, s.length ≤ 140737488351232 := fun s hs => hz s (by rw [hM] at hs; exact List.mem_of_mem_take hs)
  have CF := Lib.hid (fun W (hb : Below w.heap.size w W) => rfit k hk56 q M m c W hMl (hMs.keep hb) (by omega) hMz)
  have hmin : min (n : Int) 12 = (m : Int) := by omega
  have hmn : (m : Int) ≤ (c : Int) := by omega
  have hmm : ((12 : Int) < (n : Int) ∧ m = 12) ∨ (¬ (12 : Int) < (n : Int) ∧ m = n) := by omega
  clear hM hMl hMs hMz hL h hz hnil hm
  rcases hmm with ⟨d1, rfl⟩ | ⟨d1, rfl⟩
  all_goals
    go_enter Try.func7, Try.ntmps7
    go_wp2_with fail
    refine C0.out.mono ?_
    rintro e w1 ⟨rfl, hb1⟩
    go_wp2_with fail
    refine (CF.out _ hb1).mono ?_
    rintro e w2 ⟨v, R, rfl, ⟨qr, cr, rfl, hS, hge, e1, e2, e3⟩, ⟨f1, f2, f3⟩, hb2⟩
    obtain ⟨z1, z2, z3, z4, z5, z6, z7⟩ := need_of hk56 f2 f3
    have CO := Lib.hid (of_any qr R R.length cr w2 rfl hS (by omega) e1 e2 e3 (by rw [f2]; have : ∀ j, j < 56 → (cmdAt j).name.length ≤ 20 := (by decide +kernel); have := this k hk56; omega))
    unfold OfP at CO
    rw [z1] at CO
    have hb12 := hb1.trans (hb2.mono hb1.size)
    obtain ⟨d, hd⟩ : ∃ d, d = ofN R := ⟨_, rfl⟩
    rw [← hd] at CO z3 z4 z5 z6 z7
    obtain ⟨nR, hnR⟩ : ∃ nR, nR = R.length := ⟨_, rfl⟩
    rw [← hnR] at CO ⊢
    clear z1 z2 hd hnR C0 CF hb1 hb2 hS hge e1 e2 e3 f1 f2 f3
    go_wp2_with fail
    refine CO.out.mono ?_
    rintro e w3 ⟨v3, rfl, hN3, hb3⟩
    obtain ⟨qk, ck, qc, cc, rfl, hO⟩ := need_open hN3
    obtain ⟨kc, kl, ar, aw, cl⟩ := d
    simp only at z3 z4 z5 z6 z7 ⊢
    subst z3
    obtain ⟨nk, hnk⟩ : ∃ nk, nk = kl.length := ⟨_, rfl⟩
    obtain ⟨nc, hnc⟩ : ∃ nc, nc = cl.length := ⟨_, rfl⟩
    rw [← hnk] at z4 ⊢
    rw [← hnc] at z7 ⊢
    have hb13 := hb12.trans (hb3.mono hb12.size)
    have HB3 := Lib.hid (hb13.alloc hb13.size (.cells #[.int .i64 (k : Int), .slice qk nk ck, .bool ar, .bool aw, .slice qc nc cc] 27))
    have HC3 := Lib.hid (NCells.new w3 (.int .i64 (k : Int)) (.slice qk nk ck) (.bool ar) (.bool aw) (.slice qc nc cc) w3.heap.size rfl)
    have hw := ways k hk56 nk nc ar aw z4 z5 z6 z7
    clear z4 z5 z6 z7 hN3 hb3 hb12 hb13 hO CO hnk hnc
    go_upto_region 5 with fail
    generalize w3.alloc (.cells #[.int .i64 (k : Int), .slice qk nk ck, .bool ar, .bool aw, .slice qc nc cc] 27) = W4 at HB3 HC3 ⊢
    obtain ⟨a0, a1, a2, a3, a4⟩ := HC3.out
    have t0 : ((k : Int) != (k : Int)) = false := bne_self_eq_false _
    rcases hw with ⟨rfl, rfl, rfl, rfl, rfl⟩ | ⟨rfl, rfl, rfl, rfl, rfl⟩ | ⟨rfl, rfl, rfl, rfl, rfl⟩ | ⟨rfl, g1, rfl, rfl, rfl⟩ | ⟨rfl, rfl, rfl, rfl, g1⟩ | ⟨rfl, rfl, rfl, rfl, g1⟩ | ⟨g0, g1, g2, g3, g4, rfl, rfl, rfl⟩ | ⟨g0, g1, g2, g3, rfl, rfl, rfl, rfl⟩
    · go_wp2_with fail
      go_ret
      exact ⟨rfl, HB3.out⟩
    · go_wp2_with fail
      go_ret
      exact ⟨rfl, HB3.out⟩
    · go_wp2_with fail
      go_ret
      exact ⟨rfl, HB3.out⟩
    · have g2 : decide ((0 : Int) < (nk : Int)) = true := decide_eq_true (by omega)
      go_wp2_with fail
      go_ret
      exact ⟨rfl, HB3.out⟩
    · have g2 : decide ((0 : Int) < (nc : Int)) = true := decide_eq_true (by omega)
      go_wp2_with fail
      go_ret
      exact ⟨rfl, HB3.out⟩
    · have g2 : decide ((0 : Int) < (nc : Int)) = true := decide_eq_true (by omega)
      go_wp2_with fail
      go_ret
      exact ⟨rfl, HB3.out⟩
    · have y1 : decide ((k : Int) < 43) = true := decide_eq_true (by omega)
      have y2 : decide ((0 : Int) < (nk : Int)) = true := decide_eq_true (by omega)
      have y3 : ((k : Int) == 40) = false := by rw [beq_eq_false_iff_ne]; omega
      have y4 : ((k : Int) == 41) = false := by rw [beq_eq_false_iff_ne]; omega
      have y5 : ((k : Int) == 42) = false := by rw [beq_eq_false_iff_ne]; omega
      have y6 : ((k : Int) == 52) = false := by rw [beq_eq_false_iff_ne]; omega
      have y7 : ((k : Int) == 54) = false := by rw [beq_eq_false_iff_ne]; omega
      have y8 : ((k : Int) == 50) = false := by rw [beq_eq_false_iff_ne]; omega
      have y9 : (0 : Int) < (nk : Int) := by omega
      clear g0 g1 g2 g3 g4 hk56 hk
      go_wp2_with fail
      go_ret
      exact ⟨rfl, HB3.out⟩
    · have y1 : decide ((k : Int) < 43) = false := decide_eq_false (by omega)
      have y3 : ((k : Int) == 40) = false := by rw [beq_eq_false_iff_ne]; omega
      have y4 : ((k : Int) == 41) = false := by rw [beq_eq_false_iff_ne]; omega
      have y5 : ((k : Int) == 42) = false := by rw [beq_eq_false_iff_ne]; omega
      have y6 : ((k : Int) == 52) = false := by rw [beq_eq_false_iff_ne]; omega
      have y7 : ((k : Int) == 54) = false := by rw [beq_eq_false_iff_ne]; omega
      have y8 : ((k : Int) == 50) = false := by rw [beq_eq_false_iff_ne]; omega
      clear g0 g1 g2 g3 hk56 hk
      go_wp2_with fail
      go_ret
      exact ⟨rfl, HB3.out⟩

end Go.Proofs.Ytonoelpmmjnpeaa.usesNone
