/-
  The document's own Roots: the constants are the roots.
-/
import Derived.Test.YtnleddfojejbeaaDoorRefPrimes
import Derived.Test.YtnleddfojejbeaaDoorRefRoot
import Derived.BigQuiet
import Derived.Lib.QuietBelow
namespace Go.Proofs.YtnleddfojejbeaaDoor.RootT
open Go.RowKit Kit ShaMath RefT RootM
open Go.Sort (grow)
set_option linter.unusedVariables false

theorem rootk (i : Nat) (hi : i < 64) (w : World) :
    Calls Tryd.prog 26 #[.int .u64 (primeAt i : Int), .int .i64 3] w fun e w' => e = .returned (.int .u64 (kAt i : Int)) ∧ Below w.heap.size w w' := by
  obtain ⟨h1, h2, -⟩ := tab_at i hi
  rw [h1]
  exact root_any (primeAt i) 3 (by decide) (by decide) h2 w
theorem rooth (i : Nat) (hi : i < 8) (w : World) :
    Calls Tryd.prog 26 #[.int .u64 (primeAt i : Int), .int .i64 2] w fun e w' => e = .returned (.int .u64 (H0.get i : Int)) ∧ Below w.heap.size w w' := by
  obtain ⟨-, h2, h3⟩ := tab_at i (by omega)
  rw [h3 hi]
  exact root_any (primeAt i) 2 (by decide) (by decide) h2 w
/-- What lies in memory. -/
structure RRel (w : World) (g1 g2 g3 : Nat) (wr : World) : Prop where
  below : Below w.heap.size w wr
  p1 : Arr wr g1 .u64 64 46 primeAt
  k1 : Arr wr g2 .u64 64 46 kAt
  h1 : Arr wr g3 .u64 8 43 H0.get
theorem RRel.keep {w : World} {g1 g2 g3 : Nat} {wr w' : World} (h : RRel w g1 g2 g3 wr) (hb : Below wr.heap.size wr w') : RRel w g1 g2 g3 w' :=
  ⟨h.below.trans (hb.mono h.below.size), h.p1.keep hb h.p1.lt, h.k1.keep hb h.k1.lt, h.h1.keep hb h.h1.lt⟩

set_option maxHeartbeats 600000 in
theorem roots_any (w : World) :
    Calls Tryd.prog 11 #[] w fun e w' => e = .returned (.bool true) ∧ Below w.heap.size w w' := by
  obtain ⟨hz, hn⟩ := zero_of_info info_r64
  have HN := Lib.hid hn
  have H8 := Lib.hid (zero_of_info info_r8).2
  clear hn
  go_enter Tryd.func11, Tryd.ntmps11
  go_wp2_with fail
  refine (primes_any _).mono ?_
  rintro e w1 ⟨rfl, hb1⟩
  go_wp2_with (with_reducible refine wpList_store_arr rfl 46 (.tmp 1) (.tmp 5) rfl w1.heap.size .u64 64 primeAt rfl rfl 46 _ (Arr.new (n := 64) (k := .u64) (f := fun _ => 0)) HN ?_)
  have hA1 : Arr ((w1.alloc (.cells (row .u64 64 fun _ => 0) 46)).setRow w1.heap.size (row .u64 64 primeAt)) w1.heap.size .u64 64 46 primeAt := Arr.new.setRow _
  have hB1 : Below w.heap.size w ((w1.alloc (.cells (row .u64 64 fun _ => 0) 46)).setRow w1.heap.size (row .u64 64 primeAt)) := below_setRow (hb1.alloc hb1.size _) hb1.size _
  clear hb1
  generalize World.setRow _ _ _ = wa at hA1 hB1 ⊢
  generalize w1.heap.size = g1 at hA1 ⊢
  refine (table_any _).mono ?_
  rintro e w2 ⟨rfl, hb2⟩
  have hA2 := hA1.keep hb2 hA1.lt
  have hB2 := hB1.trans (hb2.mono hB1.size)
  clear hA1 hB1 hb2
  go_wp2_with (with_reducible refine wpList_store_arr rfl 46 (.tmp 2) (.tmp 6) rfl w2.heap.size .u64 64 kAt rfl rfl 46 _ (Arr.new (n := 64) (k := .u64) (f := fun _ => 0)) HN ?_)
  have hK3 : Arr ((w2.alloc (.cells (row .u64 64 fun _ => 0) 46)).setRow w2.heap.size (row .u64 64 kAt)) w2.heap.size .u64 64 46 kAt := Arr.new.setRow _
  have hA3 : Arr ((w2.alloc (.cells (row .u64 64 fun _ => 0) 46)).setRow w2.heap.size (row .u64 64 kAt)) g1 .u64 64 46 primeAt := (hA2.al _).setRow_ne _ (by have := hA2.lt; omega)
  have hB3 : Below w.heap.size w ((w2.alloc (.cells (row .u64 64 fun _ => 0) 46)).setRow w2.heap.size (row .u64 64 kAt)) := below_setRow (hB2.alloc hB2.size _) hB2.size _
  clear hA2 hB2
  generalize World.setRow _ _ _ = wb at hK3 hA3 hB3 ⊢
  generalize w2.heap.size = g2 at hK3 ⊢
  refine (first_any _).mono ?_
  rintro e w3 ⟨rfl, hb3⟩
  have hK4 := hK3.keep hb3 hK3.lt
  have hA4 := hA3.keep hb3 hA3.lt
  have hB4 := hB3.trans (hb3.mono hB3.size)
  clear hA3 hK3 hB3 hb3
  go_wp2_with (with_reducible refine wpList_store_arr rfl 43 (.tmp 3) (.tmp 7) rfl w3.heap.size .u64 8 H0.get rfl rfl 43 _ (rzero8 _) H8 ?_)
  have hS : RRel w g1 g2 w3.heap.size ((w3.alloc (.cells #[.int .u64 0, .int .u64 0, .int .u64 0, .int .u64 0, .int .u64 0, .int .u64 0, .int .u64 0, .int .u64 0] 43)).setRow w3.heap.size (row .u64 8 H0.get)) :=
    ⟨below_setRow (hB4.alloc hB4.size _) hB4.size _, (hA4.al _).setRow_ne _ (by have := hA4.lt; omega), (hK4.al _).setRow_ne _ (by have := hK4.lt; omega), (rzero8 _).setRow _⟩
  clear hA4 hK4 hB4
  generalize World.setRow _ _ _ = wc at hS ⊢
  generalize w3.heap.size = g3 at hS ⊢
  go_loopw [4] (fun i wr => ∃ k : Nat, k ≤ 64 ∧ i = .int .i64 k ∧ RRel w g1 g2 g3 wr) (fun i _ => 64 - (intOf i).toNat)
  case atStart => exact ⟨0, by decide, rfl, hS⟩
  case round =>
    obtain ⟨i, hi, rfl, hR⟩ := hrel
    clear hS
    by_cases hlt : i < 64
    · have c0 := hR.p1.at_ i hlt
      have c1 := hR.k1.at_ i hlt
      have cK := fun W => rootk i hlt W
      have hb : Below wr.heap.size wr wr := Below.refl _ _
      by_cases h8 : i < 8
      · have hd8 : decide ((i : Int) < 8) = true := decide_eq_true (by omega)
        have c2 := hR.h1.at_ i h8
        have cH := fun W => rooth i h8 W
        generalize primeAt i = pa at c0 cK cH
        generalize kAt i = ka at c1 cK
        generalize H0.get i = ha at c2 cH
        have CK := Lib.hid (fun d os => Calls.regrown_of (cK (grow (redrawn wr d) os)))
        have CH := Lib.hid (fun d os => Calls.regrown_of (cH (grow (redrawn wr d) os)))
        clear cK cH
        have e0 := fun d os => cell_regrown c0 d os
        have e1 := fun d os => cell_regrown c1 d os
        have e2 := fun d os => cell_regrown c2 d os
        go_wp2_with fail
        refine wp_region_quiet_below (by kernel_rfl) (by kernel_rfl) ?_
        repeat (any_goals (go_big_quiet_step (first | (go_at_call 26; with_reducible exact CK.out _ _) | (go_at_call 26; with_reducible exact CH.out _ _))))
        refine wpQuiet_nil ?_
        intro _ hw'
        obtain ⟨⟨dq, osq⟩, hw''⟩ := hw'
        subst hw''
        have hR2 := hR.keep (below_regrown wr dq osq)
        clear hR
        generalize grow _ _ = wz at hR2 ⊢
        go_wp2_with fail
        go_roundw
        case rel => exact ⟨i + 1, by omega, by go_num, hR2⟩
        case measure => simp [intOf]; omega
      · have hd8 : decide ((i : Int) < 8) = false := decide_eq_false (by omega)
        generalize primeAt i = pa at c0 cK
        generalize kAt i = ka at c1 cK
        have CK := Lib.hid (fun d os => Calls.regrown_of (cK (grow (redrawn wr d) os)))
        clear cK
        have e0 := fun d os => cell_regrown c0 d os
        have e1 := fun d os => cell_regrown c1 d os
        go_wp2_with fail
        refine wp_region_quiet_below (by kernel_rfl) (by kernel_rfl) ?_
        repeat (any_goals (go_big_quiet_step ((go_at_call 26; with_reducible exact CK.out _ _))))
        refine wpQuiet_nil ?_
        intro _ hw'
        obtain ⟨⟨dq, osq⟩, hw''⟩ := hw'
        subst hw''
        have hR2 := hR.keep (below_regrown wr dq osq)
        clear hR
        generalize grow _ _ = wz at hR2 ⊢
        go_wp2_with fail
        go_roundw
        case rel => exact ⟨i + 1, by omega, by go_num, hR2⟩
        case measure => simp [intOf]; omega
    · go_wp2_with fail
      go_ret
      exact ⟨rfl, hR.below⟩

end Go.Proofs.YtnleddfojejbeaaDoor.RootT
