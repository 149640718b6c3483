/-
  The landed code of layer 9: comparisons of marks; whether a row of pairs, of marks rises.
-/
import Derived.Test.YtljhcakfbdbmpaaLandRise
namespace Go.Proofs.Ytljhcakfbdbmpaa.ValM
open Go.RowKit Kit StrT RowG BOrd ValT RefV
open Go.Op (bytesLess)
set_option linter.unusedVariables false
set_option maxRecDepth 100000

set_option maxHeartbeats 2000000 in
theorem or_any (g : Nat) (a b : Int) (w : World) (h0 : w.cell? ⟨g, 0, none⟩ = some (.int .i64 a)) (h1 : w.cell? ⟨g, 1, none⟩ = some (.int .i64 b)) :
    Calls Try.prog 41 #[.slice (some ⟨g, 0, none⟩) 2 2] w fun e w' => e = .returned (.int .i64 (if a = 0 then b else a)) ∧ w' = w := by
  by_cases ha : a = 0
  · rw [if_pos ha]
    subst ha
    by_cases hb : b = 0
    · subst hb
      go_enter Try.func41, Try.ntmps41
      go_wp2_with fail
      go_loopw [8] (fun i wr => ∃ k : Nat, k ≤ 2 ∧ i = .int .i64 (k : Int) ∧ wr = w) (fun i _ => 2 - (intOf i).toNat)
      case atStart => exact ⟨0, by omega, rfl, rfl⟩
      case round =>
        obtain ⟨k, hk, rfl, rfl⟩ := hrel
        rcases (by omega : k = 0 ∨ k = 1 ∨ k = 2) with rfl | rfl | rfl
        · go_wp2_with fail
          go_roundw
          case rel => exact ⟨1, by omega, by first | rfl | trivial, by first | rfl | trivial⟩
          case measure => simp [intOf]
        · go_wp2_with fail
          go_roundw
          case rel => exact ⟨2, by omega, by first | rfl | trivial, by first | rfl | trivial⟩
          case measure => simp [intOf]
        · go_wp2_with fail
          go_ret
          exact ⟨rfl, rfl⟩
    · have e1 : (b != 0) = true := by simpa using hb
      go_enter Try.func41, Try.ntmps41
      go_wp2_with fail
      go_loopw [8] (fun i wr => ∃ k : Nat, k ≤ 1 ∧ i = .int .i64 (k : Int) ∧ wr = w) (fun i _ => 2 - (intOf i).toNat)
      case atStart => exact ⟨0, by omega, rfl, rfl⟩
      case round =>
        obtain ⟨k, hk, rfl, rfl⟩ := hrel
        rcases (by omega : k = 0 ∨ k = 1) with rfl | rfl
        · go_wp2_with fail
          go_roundw
          case rel => exact ⟨1, by omega, by first | rfl | trivial, by first | rfl | trivial⟩
          case measure => simp [intOf]
        · go_wp2_with fail
          go_ret
          exact ⟨rfl, rfl⟩
  · rw [if_neg ha]
    have e1 : (a != 0) = true := by simpa using ha
    go_enter Try.func41, Try.ntmps41
    go_wp2_with fail
    go_loopw [8] (fun i wr => i = .int .i64 0 ∧ wr = w) (fun i _ => 2 - (intOf i).toNat)
    case atStart => exact ⟨rfl, rfl⟩
    case round =>
      obtain ⟨rfl, rfl⟩ := hrel
      go_wp2_with fail
      go_ret
      exact ⟨rfl, rfl⟩
theorem or_cmp (x y : Int) (A C : List UInt8) : (if Lib.compareInt x y = 0 then Lib.compareBytes A C else Lib.compareInt x y) = cmpM ⟨A, x⟩ ⟨C, y⟩ := rfl
theorem two_cells (W : World) (a b : Value) (k : Nat) (hk : k = W.heap.size) : (W.alloc (.cells #[a, b] 3)).cell? ⟨k, 0, none⟩ = some a ∧ (W.alloc (.cells #[a, b] 3)).cell? ⟨k, 1, none⟩ = some b := by
  subst hk
  constructor <;> (rw [cell_of_row _ _ _ _ 3 _ (heap_alloc_last W _)]; rfl)

set_option maxHeartbeats 4000000 in
theorem byNumber_any (A C : ByteArray) (x y : Int) (w : World) :
    Calls Try.prog 25 #[.agg #[.string A, .int .i64 x], .agg #[.string C, .int .i64 y]] w fun e w' => e = .returned (.int .i64 (cmpM ⟨A.data.toList, x⟩ ⟨C.data.toList, y⟩)) ∧ Below w.heap.size w w' := by
  have c0 : ((w.alloc (.cells #[.string A, .int .i64 x] 36)).alloc (.cells #[.string C, .int .i64 y] 36)).cell? ⟨w.heap.size, 0, none⟩ = some (.string A) := by
    rw [cell_of_row _ _ _ _ 36 _ (heap_alloc2_old w _ _)]
    rfl
  have c1 : ((w.alloc (.cells #[.string A, .int .i64 x] 36)).alloc (.cells #[.string C, .int .i64 y] 36)).cell? ⟨w.heap.size, 1, none⟩ = some (.int .i64 x) := by
    rw [cell_of_row _ _ _ _ 36 _ (heap_alloc2_old w _ _)]
    rfl
  have d0 : ((w.alloc (.cells #[.string A, .int .i64 x] 36)).alloc (.cells #[.string C, .int .i64 y] 36)).cell? ⟨w.heap.size + 1, 0, none⟩ = some (.string C) := by
    rw [cell_of_row _ _ _ _ 36 _ (heap_alloc2_new w _ _)]
    rfl
  have d1 : ((w.alloc (.cells #[.string A, .int .i64 x] 36)).alloc (.cells #[.string C, .int .i64 y] 36)).cell? ⟨w.heap.size + 1, 1, none⟩ = some (.int .i64 y) := by
    rw [cell_of_row _ _ _ _ 36 _ (heap_alloc2_new w _ _)]
    rfl
  have HB := Lib.hid (show Below w.heap.size w ((w.alloc (.cells #[.string A, .int .i64 x] 36)).alloc (.cells #[.string C, .int .i64 y] 36)) from ((Below.refl _ _).alloc (Nat.le_refl _) _).alloc (by simp) _)
  have HO := Lib.hid (or_cmp x y A.data.toList C.data.toList)
  have CC := Lib.hid (fun W => Try.strings_Compare A C W)
  have CN := Lib.hid (fun W => Try.cmp_Compare_int x y W)
  obtain ⟨U, hU⟩ : ∃ U, U = Lib.compareInt x y := ⟨_, rfl⟩
  obtain ⟨V, hV⟩ : ∃ V, V = Lib.compareBytes A.data.toList C.data.toList := ⟨_, rfl⟩
  rw [← hU] at CN HO
  rw [← hV] at CC HO
  clear hU hV
  go_enter Try.func25, Try.ntmps25
  go_wp2_with fail
  refine wp_region_quiet_tail_lit 10 (by kernel_rfl) (by kernel_rfl) ?_
  simp only [List.take_succ_cons, List.take_zero, List.drop_succ_cons, List.drop_zero]
  repeat (go_big_quiet_step (first | (go_at_call 23; with_reducible exact Calls.quiet_of_same (CC.out _)) | (go_at_call 42; with_reducible exact Calls.quiet_of_same (CN.out _))))
  refine wpQuiet_nil ?_
  rintro _ ⟨nq, rfl⟩
  have HBq := Lib.hid (drewN_below HB.out nq)
  clear c0 c1 d0 d1
  generalize World.drewN _ nq = w5 at HBq ⊢
  obtain ⟨e0, e1⟩ := two_cells w5 (.int .i64 U) (.int .i64 V) w5.heap.size rfl
  have HB6 := Lib.hid (HBq.out.alloc HBq.out.size (.cells #[.int .i64 U, .int .i64 V] 3))
  have CO := Lib.hid (or_any w5.heap.size U V _ e0 e1)
  obtain ⟨Z, hZ⟩ : ∃ Z, Z = if U = 0 then V else U := ⟨_, rfl⟩
  rw [← hZ] at CO HO
  clear hZ e0 e1
  go_wp2_with (go_at_call 41; with_reducible refine CO.out.mono ?_; rintro e w6 ⟨rfl, rfl⟩)
  go_ret
  exact ⟨ret_int HO.out, HB6.out⟩

set_option maxHeartbeats 4000000 in
theorem rising_p (q : Option Addr) (L : List Pr) (n c : Nat) (w : World) (hn : L.length = n) (h : Rs prE w q L) (hz : n ≤ 1048576) :
    Calls Try.prog 20 #[.slice q n c, .func (.func 21) #[] #[]] w fun e w' => e = .returned (.bool (chainB cmpP L)) ∧ Below w.heap.size w w' := by
  have HS := Lib.hid h
  have HN := Lib.hid hn
  clear h hn
  go_enter Try.func20, Try.ntmps20
  go_wp2_with fail
  go_loopw [5] (fun i wr => ∃ k : Nat, i = .int .i64 ((k : Int) + 1) ∧ k ≤ n ∧ Hid (∀ j (hj : j < k) (h : j + 1 < L.length), cmpP L[j] L[j + 1] < 0) ∧ Hid (Below w.heap.size w wr)) (fun i _ => n + 2 - (intOf i).toNat)
  case atStart => exact ⟨0, rfl, Nat.zero_le _, Lib.hid (fun j hj => absurd hj (by omega)), Lib.hid (Below.refl _ _)⟩
  case round =>
    obtain ⟨k, rfl, hk, HR, HB⟩ := hrel
    by_cases hlt : k + 1 < n
    · have d1 : decide ((k : Int) + 1 < (n : Int)) = true := decide_eq_true (by omega)
      have hk0 : (0 : Int) ≤ (k : Int) := by omega
      have hkn : (k : Int) < (n : Int) := by omega
      have hkn1 : (k : Int) + 1 < (n : Int) := by omega
      obtain ⟨b, off, rfl, hbl, u0, u1⟩ := pair_cells (HS.out.keep HB.out) k (by rw [HN.out]; omega)
      obtain ⟨b', off', e1, -, v0, v1⟩ := pair_cells (HS.out.keep HB.out) (k + 1) (by rw [HN.out]; omega)
      injection e1 with e1
      injection e1 with e2 e3
      subst e2 e3
      have HSt := Lib.hid (show cmpP (L[k]'(by rw [HN.out]; omega)) (L[k + 1]'(by rw [HN.out]; omega)) < 0 → ∀ j (hj : j < k + 1) (h : j + 1 < L.length), cmpP L[j] L[j + 1] < 0 from fun h0 j hj h => by
        rcases Nat.lt_or_ge j k with h1 | h1
        · exact HR.out j h1 h
        · obtain rfl : j = k := by omega
          exact h0)
      have HNo := Lib.hid (show ¬ cmpP (L[k]'(by rw [HN.out]; omega)) (L[k + 1]'(by rw [HN.out]; omega)) < 0 → chainB cmpP L = false from fun h0 => chainB_false fun h => h0 (h k (by rw [HN.out]; omega)))
      obtain ⟨X, hX⟩ : ∃ X, X = L[k]'(by rw [HN.out]; omega) := ⟨_, rfl⟩
      obtain ⟨Y, hY⟩ : ∃ Y, Y = L[k + 1]'(by rw [HN.out]; omega) := ⟨_, rfl⟩
      rw [← hX] at u0 u1 HSt HNo
      rw [← hY] at v0 v1 HSt HNo
      obtain ⟨X1, X2⟩ := X
      obtain ⟨Y1, Y2⟩ := Y
      simp only at u0 u1 v0 v1
      obtain ⟨A, hA⟩ : ∃ A : ByteArray, A = ⟨X1.toArray⟩ := ⟨_, rfl⟩
      obtain ⟨B, hB⟩ : ∃ B : ByteArray, B = ⟨Y1.toArray⟩ := ⟨_, rfl⟩
      obtain ⟨A2, hA2⟩ : ∃ A : ByteArray, A = ⟨X2.toArray⟩ := ⟨_, rfl⟩
      obtain ⟨B2, hB2⟩ : ∃ B : ByteArray, B = ⟨Y2.toArray⟩ := ⟨_, rfl⟩
      obtain ⟨V, hV⟩ : ∃ V, V = cmpP ⟨X1, X2⟩ ⟨Y1, Y2⟩ := ⟨_, rfl⟩
      have CF := Lib.hid (show ∀ W, Calls Try.prog 21 #[.agg #[.string A, .string A2], .agg #[.string B, .string B2]] W fun e w' => e = .returned (.int .i64 V) ∧ Below W.heap.size W w' from fun W => by
        have h := byName_any A A2 B B2 W
        rw [hV, hA, hB]
        rw [hA, hB] at h
        exact h)
      rw [← hV] at HSt HNo
      rw [← hA] at u0
      rw [← hB] at v0
      rw [← hA2] at u1
      rw [← hB2] at v1
      clear hX hY hA hB hA2 hB2 hV hbl
      by_cases hc : V < 0
      · have HG := Lib.hid (HSt.out hc)
        have hd : decide (0 ≤ V) = false := decide_eq_false (by omega)
        have hd2 : decide (V < 0) = true := decide_eq_true hc
        have x0 := fun d os => cell_regrown u0 d os
        have x1 := fun d os => cell_regrown u1 d os
        have y0 := fun d os => cell_regrown v0 d os
        have y1 := fun d os => cell_regrown v1 d os
        go_wp2_with fail
        refine wp_region_quiet_below (by kernel_rfl) (by kernel_rfl) ?_
        repeat (any_goals (go_big_quiet_step ((go_at_call 21; with_reducible exact Calls.regrown_of (CF.out _)))))
        refine wpQuiet_nil ?_
        intro _ hw'
        obtain ⟨⟨dq, osq⟩, hw''⟩ := hw'
        subst hw''
        have hbq := HB.out.trans ((below_regrown wr dq osq).mono HB.out.size)
        clear u0 u1 v0 v1 x0 x1 y0 y1
        generalize Go.Sort.grow (redrawn wr dq) osq = wq at hbq ⊢
        go_wp2_with fail
        go_roundw
        case rel => exact ⟨k + 1, by go_num, by omega, HG, Lib.hid hbq⟩
        case measure => simp [intOf]; omega
      · have HG := Lib.hid (HNo.out hc)
        have hd : decide (0 ≤ V) = true := decide_eq_true (by omega)
        have hd2 : decide (V < 0) = false := decide_eq_false hc
        have x0 := fun d os => cell_regrown u0 d os
        have x1 := fun d os => cell_regrown u1 d os
        have y0 := fun d os => cell_regrown v0 d os
        have y1 := fun d os => cell_regrown v1 d os
        go_wp2_with fail
        refine wp_region_quiet_below (by kernel_rfl) (by kernel_rfl) ?_
        repeat (any_goals (go_big_quiet_step ((go_at_call 21; with_reducible exact Calls.regrown_of (CF.out _)))))
        refine wpQuiet_nil ?_
        intro _ hw'
        obtain ⟨⟨dq, osq⟩, hw''⟩ := hw'
        subst hw''
        have hbq := HB.out.trans ((below_regrown wr dq osq).mono HB.out.size)
        clear u0 u1 v0 v1 x0 x1 y0 y1
        generalize Go.Sort.grow (redrawn wr dq) osq = wq at hbq ⊢
        go_wp2_with fail
        go_ret
        exact ⟨ret_bool HG.out.symm, hbq⟩
    · have d1 : decide ((k : Int) + 1 < (n : Int)) = false := decide_eq_false (by omega)
      have HX := Lib.hid (show chainB cmpP L = true from chainB_true fun j h => HR.out j (by have := HN.out; omega) h)
      go_wp2_with fail
      go_ret
      exact ⟨ret_bool HX.out.symm, HB.out⟩

set_option maxHeartbeats 4000000 in
theorem rising_m (q : Option Addr) (L : List Mk) (n c : Nat) (w : World) (hn : L.length = n) (h : Rs mkE w q L) (hz : n ≤ 1048576) :
    Calls Try.prog 24 #[.slice q n c, .func (.func 25) #[] #[]] w fun e w' => e = .returned (.bool (chainB cmpM L)) ∧ Below w.heap.size w w' := by
  have HS := Lib.hid h
  have HN := Lib.hid hn
  clear h hn
  go_enter Try.func24, Try.ntmps24
  go_wp2_with fail
  go_loopw [5] (fun i wr => ∃ k : Nat, i = .int .i64 ((k : Int) + 1) ∧ k ≤ n ∧ Hid (∀ j (hj : j < k) (h : j + 1 < L.length), cmpM L[j] L[j + 1] < 0) ∧ Hid (Below w.heap.size w wr)) (fun i _ => n + 2 - (intOf i).toNat)
  case atStart => exact ⟨0, rfl, Nat.zero_le _, Lib.hid (fun j hj => absurd hj (by omega)), Lib.hid (Below.refl _ _)⟩
  case round =>
    obtain ⟨k, rfl, hk, HR, HB⟩ := hrel
    by_cases hlt : k + 1 < n
    · have d1 : decide ((k : Int) + 1 < (n : Int)) = true := decide_eq_true (by omega)
      have hk0 : (0 : Int) ≤ (k : Int) := by omega
      have hkn : (k : Int) < (n : Int) := by omega
      have hkn1 : (k : Int) + 1 < (n : Int) := by omega
      obtain ⟨b, off, rfl, hbl, u0, u1⟩ := mark_cells (HS.out.keep HB.out) k (by rw [HN.out]; omega)
      obtain ⟨b', off', e1, -, v0, v1⟩ := mark_cells (HS.out.keep HB.out) (k + 1) (by rw [HN.out]; omega)
      injection e1 with e1
      injection e1 with e2 e3
      subst e2 e3
      have HSt := Lib.hid (show cmpM (L[k]'(by rw [HN.out]; omega)) (L[k + 1]'(by rw [HN.out]; omega)) < 0 → ∀ j (hj : j < k + 1) (h : j + 1 < L.length), cmpM L[j] L[j + 1] < 0 from fun h0 j hj h => by
        rcases Nat.lt_or_ge j k with h1 | h1
        · exact HR.out j h1 h
        · obtain rfl : j = k := by omega
          exact h0)
      have HNo := Lib.hid (show ¬ cmpM (L[k]'(by rw [HN.out]; omega)) (L[k + 1]'(by rw [HN.out]; omega)) < 0 → chainB cmpM L = false from fun h0 => chainB_false fun h => h0 (h k (by rw [HN.out]; omega)))
      obtain ⟨X, hX⟩ : ∃ X, X = L[k]'(by rw [HN.out]; omega) := ⟨_, rfl⟩
      obtain ⟨Y, hY⟩ : ∃ Y, Y = L[k + 1]'(by rw [HN.out]; omega) := ⟨_, rfl⟩
      rw [← hX] at u0 u1 HSt HNo
      rw [← hY] at v0 v1 HSt HNo
      obtain ⟨X1, X2⟩ := X
      obtain ⟨Y1, Y2⟩ := Y
      simp only at u0 u1 v0 v1
      obtain ⟨A, hA⟩ : ∃ A : ByteArray, A = ⟨X1.toArray⟩ := ⟨_, rfl⟩
      obtain ⟨B, hB⟩ : ∃ B : ByteArray, B = ⟨Y1.toArray⟩ := ⟨_, rfl⟩
      obtain ⟨V, hV⟩ : ∃ V, V = cmpM ⟨X1, X2⟩ ⟨Y1, Y2⟩ := ⟨_, rfl⟩
      have CF := Lib.hid (show ∀ W, Calls Try.prog 25 #[.agg #[.string A, .int .i64 X2], .agg #[.string B, .int .i64 Y2]] W fun e w' => e = .returned (.int .i64 V) ∧ Below W.heap.size W w' from fun W => by
        have h := byNumber_any A B X2 Y2 W
        rw [hV, hA, hB]
        rw [hA, hB] at h
        exact h)
      rw [← hV] at HSt HNo
      rw [← hA] at u0
      rw [← hB] at v0
      clear hX hY hA hB hV hbl
      by_cases hc : V < 0
      · have HG := Lib.hid (HSt.out hc)
        have hd : decide (0 ≤ V) = false := decide_eq_false (by omega)
        have hd2 : decide (V < 0) = true := decide_eq_true hc
        have x0 := fun d os => cell_regrown u0 d os
        have x1 := fun d os => cell_regrown u1 d os
        have y0 := fun d os => cell_regrown v0 d os
        have y1 := fun d os => cell_regrown v1 d os
        go_wp2_with fail
        refine wp_region_quiet_below (by kernel_rfl) (by kernel_rfl) ?_
        repeat (any_goals (go_big_quiet_step ((go_at_call 25; with_reducible exact Calls.regrown_of (CF.out _)))))
        refine wpQuiet_nil ?_
        intro _ hw'
        obtain ⟨⟨dq, osq⟩, hw''⟩ := hw'
        subst hw''
        have hbq := HB.out.trans ((below_regrown wr dq osq).mono HB.out.size)
        clear u0 u1 v0 v1 x0 x1 y0 y1
        generalize Go.Sort.grow (redrawn wr dq) osq = wq at hbq ⊢
        go_wp2_with fail
        go_roundw
        case rel => exact ⟨k + 1, by go_num, by omega, HG, Lib.hid hbq⟩
        case measure => simp [intOf]; omega
      · have HG := Lib.hid (HNo.out hc)
        have hd : decide (0 ≤ V) = true := decide_eq_true (by omega)
        have hd2 : decide (V < 0) = false := decide_eq_false hc
        have x0 := fun d os => cell_regrown u0 d os
        have x1 := fun d os => cell_regrown u1 d os
        have y0 := fun d os => cell_regrown v0 d os
        have y1 := fun d os => cell_regrown v1 d os
        go_wp2_with fail
        refine wp_region_quiet_below (by kernel_rfl) (by kernel_rfl) ?_
        repeat (any_goals (go_big_quiet_step ((go_at_call 25; with_reducible exact Calls.regrown_of (CF.out _)))))
        refine wpQuiet_nil ?_
        intro _ hw'
        obtain ⟨⟨dq, osq⟩, hw''⟩ := hw'
        subst hw''
        have hbq := HB.out.trans ((below_regrown wr dq osq).mono HB.out.size)
        clear u0 u1 v0 v1 x0 x1 y0 y1
        generalize Go.Sort.grow (redrawn wr dq) osq = wq at hbq ⊢
        go_wp2_with fail
        go_ret
        exact ⟨ret_bool HG.out.symm, hbq⟩
    · have d1 : decide ((k : Int) + 1 < (n : Int)) = false := decide_eq_false (by omega)
      have HX := Lib.hid (show chainB cmpM L = true from chainB_true fun j h => HR.out j (by have := HN.out; omega) h)
      go_wp2_with fail
      go_ret
      exact ⟨ret_bool HX.out.symm, HB.out⟩

end Go.Proofs.Ytljhcakfbdbmpaa.ValM
