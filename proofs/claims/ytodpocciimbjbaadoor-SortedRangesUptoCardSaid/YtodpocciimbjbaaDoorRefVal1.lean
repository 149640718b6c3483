/-
  The document's own answers of layer 9 (package tipstaffref09): texts that rise, names of pairs, marks in order.
-/
import Derived.Test.YtodpocciimbjbaaDoorValRowz
import Derived.Lib.QuietBelow
import Derived.BigQuiet
import Derived.Deep.QuietTactic
import Derived.StillTailTactics
namespace Go.Proofs.YtodpocciimbjbaaDoor.RefV
open Go.RowKit Kit StrT RowG BOrd ValT
open Go.Op (bytesLess)
set_option linter.unusedVariables false
set_option maxRecDepth 100000

set_option maxHeartbeats 4000000 in
theorem rrises (q : Option Addr) (L : List (List UInt8)) (n c : Nat) (w : World) (hn : L.length = n) (h : Ss w q L) (hz : n ≤ 1048576) :
    Calls Tryd.prog 32 #[.slice q n c] w fun e w' => e = .returned (.bool (decide (rises L))) ∧ Below w.heap.size w w' := by
  have HS := Lib.hid h
  have HN := Lib.hid hn
  clear h hn
  go_enter Tryd.func32, Tryd.ntmps32
  go_wp2_with fail
  go_loopw [3] (fun i wr => ∃ k : Nat, i = .int .i64 ((k : Int) + 1) ∧ k ≤ n ∧ Hid (rises (L.take (k + 1))) ∧ Hid (Below w.heap.size w wr)) (fun i _ => n + 2 - (intOf i).toNat)
  case atStart => exact ⟨0, rfl, Nat.zero_le _, Lib.hid (by
    match L with
    | [] => exact List.Pairwise.nil
    | a :: r => simp [rises]), Lib.hid (Below.refl _ _)⟩
  case round =>
    obtain ⟨k, rfl, hk, HR, HB⟩ := hrel
    by_cases hlt : k + 1 < n
    · have d1 : decide ((k : Int) + 1 < (n : Int)) = true := decide_eq_true (by omega)
      have hk0 : (0 : Int) ≤ (k : Int) := by omega
      have hkn : (k : Int) < (n : Int) := by omega
      have hkn1 : (k : Int) + 1 < (n : Int) := by omega
      obtain ⟨b, off, rfl, hbl, u0⟩ := ss_at (HS.out.keep HB.out) k (by rw [HN.out]; omega)
      obtain ⟨b', off', e1, -, u1⟩ := ss_at (HS.out.keep HB.out) (k + 1) (by rw [HN.out]; omega)
      injection e1 with e1
      injection e1 with e2 e3
      subst e2 e3
      have HSt := Lib.hid (rises_step (L := L) (k := k) (by rw [HN.out]; omega) HR.out)
      obtain ⟨X, hX⟩ : ∃ X, X = L[k]'(by rw [HN.out]; omega) := ⟨_, rfl⟩
      obtain ⟨Y, hY⟩ : ∃ Y, Y = L[k + 1]'(by rw [HN.out]; omega) := ⟨_, rfl⟩
      rw [← hX] at u0 HSt
      rw [← hY] at u1 HSt
      obtain ⟨A, hA⟩ : ∃ A : ByteArray, A = ⟨X.toArray⟩ := ⟨_, rfl⟩
      obtain ⟨B, hB⟩ : ∃ B : ByteArray, B = ⟨Y.toArray⟩ := ⟨_, rfl⟩
      have hAB : bytesLess A.toList B.toList = bytesLess X Y := by rw [hA, hB, bytes_of, bytes_of]
      rw [← hA] at u0
      rw [← hB] at u1
      clear hX hY hA hB hbl
      go_wp2_with fail
      go_quiet (fail)
      have hbq := drewN_below HB.out nq
      clear u0 u1
      generalize wr.drewN nq = wq at hbq ⊢
      cases hc : bytesLess X Y with
      | true =>
        have HG := Lib.hid (HSt.out.1 hc)
        rw [hc] at hAB
        go_wp2_with fail
        go_roundw
        case rel => exact ⟨k + 1, by go_num, by omega, HG, Lib.hid hbq⟩
        case measure => simp [intOf]; omega
      | false =>
        have HG := Lib.hid (HSt.out.2 hc)
        rw [hc] at hAB
        go_wp2_with fail
        go_ret
        exact ⟨ret_bool (decide_eq_false HG.out).symm, hbq⟩
    · have d1 : decide ((k : Int) + 1 < (n : Int)) = false := decide_eq_false (by omega)
      have HX := Lib.hid (show decide (rises L) = true from decide_eq_true (by
        have h := HR.out
        rw [List.take_of_length_le (by rw [HN.out]; omega)] at h
        exact h))
      go_wp2_with fail
      go_ret
      exact ⟨ret_bool HX.out.symm, HB.out⟩

set_option maxHeartbeats 4000000 in
theorem rpairs (q : Option Addr) (L : List Pr) (n c : Nat) (w : World) (hn : L.length = n) (h : Rs prE w q L) (hz : n ≤ 1048576) :
    Calls Tryd.prog 33 #[.slice q n c] w (TextsA (names L) w) := by
  have HS := Lib.hid h
  have HN := Lib.hid hn
  have HE := Lib.hid (names_take L)
  have HO := Lib.hid (ownR_new strE w.heap.size w w.heap.size rfl (Nat.le_refl _))
  have HB0 := Lib.hid (show Below w.heap.size w (w.alloc (.cells #[] strE.ty)) from (Below.refl _ _).alloc (Nat.le_refl _) _)
  clear h hn
  go_enter Tryd.func33, Tryd.ntmps33
  go_wp2_with fail
  go_loopw [3, 4] (fun v i wr => ∃ k : Nat, k ≤ n ∧ i = .int .i64 k ∧ Hid (OwnR strE w.heap.size wr v (names (L.take k))) ∧ Hid (Below w.heap.size w wr)) (fun _ i _ => n - (intOf i).toNat)
  case atStart => exact ⟨0, Nat.zero_le _, rfl, HO, HB0⟩
  case round =>
    obtain ⟨k, hk, rfl, HOw, HB⟩ := hrel
    by_cases hlt : k < n
    · have d1 : decide ((k : Int) < (n : Int)) = true := decide_eq_true (by omega)
      have hk0 : (0 : Int) ≤ (k : Int) := by omega
      have hkn : (k : Int) < (n : Int) := by omega
      obtain ⟨b, off, rfl, hbl, u0, u1⟩ := pair_cells (HS.out.keep HB.out) k (by rw [HN.out]; exact hlt)
      have HNx := Lib.hid (HE.out k (by rw [HN.out]; exact hlt))
      obtain ⟨X, hX⟩ : ∃ X, X = (L[k]'(by rw [HN.out]; exact hlt)).name := ⟨_, rfl⟩
      rw [← hX] at u0 HNx
      obtain ⟨T, hT⟩ : ∃ T : ByteArray, T = ⟨X.toArray⟩ := ⟨_, rfl⟩
      rw [← hT] at u0
      have HO1 := Lib.hid (HOw.out.keep (show Below wr.heap.size wr (wr.alloc (.cells #[.string T] strE.ty)) from (Below.refl _ _).alloc (Nat.le_refl _) _))
      have HC := Lib.hid (rec_new strE wr wr.heap.size X #[.string T] (by rw [hT]; rfl) rfl)
      have HBa := Lib.hid (HB.out.alloc HB.out.size (.cells #[.string T] strE.ty))
      have HLn := Lib.hid (show (names (L.take k)).length ≤ 1048576 by unfold names; rw [List.length_map, List.length_take]; omega)
      clear hT hX u1 hbl
      go_wp2_with (at_builtin; refine wpList_append_r strE (w0 := w) rfl (.tmp 12) (.tmp 18) rfl _ _ rfl HO1.out HBa.out wr.heap.size X 1 rfl HC.out HLn.out ?_; intro v' w3 hown1 hb3)
      go_roundw
      case rel => exact ⟨k + 1, by omega, by go_num, Lib.hid (by rw [HNx.out]; exact hown1), Lib.hid hb3⟩
      case measure => simp [intOf]; omega
    · have d1 : decide ((k : Int) < (n : Int)) = false := decide_eq_false (by omega)
      have HX := Lib.hid (show AnsR strE w.heap.size wr u3 (names L) from by
        have h := HOw.out
        rw [List.take_of_length_le (by rw [HN.out]; omega)] at h
        exact h.ans)
      go_wp2_with fail
      go_ret
      exact ⟨_, rfl, HX.out, HB.out⟩

/-- How two marks compare, as the document's text reckons it. -/
theorem mark_ways (x y : Mk) : (decide (x.name = y.name) = true ∧ ¬ okM x y) ∨ (decide (x.name = y.name) = false ∧ decide (y.n < x.n) = true ∧ ¬ okM x y) ∨
    (decide (x.name = y.name) = false ∧ decide (y.n < x.n) = false ∧ (x.n == y.n) = true ∧ bytesLess x.name y.name = false ∧ ¬ okM x y) ∨
    (decide (x.name = y.name) = false ∧ decide (y.n < x.n) = false ∧ (x.n == y.n) = true ∧ bytesLess x.name y.name = true ∧ okM x y) ∨
    (decide (x.name = y.name) = false ∧ decide (y.n < x.n) = false ∧ (x.n == y.n) = false ∧ okM x y) := by
  by_cases h1 : x.name = y.name
  · exact Or.inl ⟨decide_eq_true h1, fun h => h.1 h1⟩
  · by_cases h2 : y.n < x.n
    · exact Or.inr (Or.inl ⟨decide_eq_false h1, decide_eq_true h2, fun h => h.2.1 h2⟩)
    · by_cases h3 : x.n = y.n
      · cases h4 : bytesLess x.name y.name with
        | false =>
          have h5 : bytesLess y.name x.name = true := by
            rcases (geq_iff _ _).1 h4 with h | h
            · exact absurd h.symm h1
            · exact h
          exact Or.inr (Or.inr (Or.inl ⟨decide_eq_false h1, decide_eq_false h2, by simpa using h3, rfl, fun h => h.2.2 ⟨h3, h5⟩⟩))
        | true => exact Or.inr (Or.inr (Or.inr (Or.inl ⟨decide_eq_false h1, decide_eq_false h2, by simpa using h3, rfl, h1, h2, fun h => by rw [less_asymm h4] at h; cases h.2⟩)))
      · exact Or.inr (Or.inr (Or.inr (Or.inr ⟨decide_eq_false h1, decide_eq_false h2, by simpa using h3, h1, h2, fun h => h3 h.1⟩)))

set_option maxHeartbeats 8000000 in
theorem rmarks (q : Option Addr) (L : List Mk) (n c : Nat) (w : World) (hn : L.length = n) (h : Rs mkE w q L) (hz : n ≤ 1048576) :
    Calls Tryd.prog 34 #[.slice q n c] w fun e w' => e = .returned (.bool (decide (marks L))) ∧ Below w.heap.size w w' := by
  have HS := Lib.hid h
  have HN := Lib.hid hn
  clear h hn
  go_enter Tryd.func34, Tryd.ntmps34
  go_wp2_with fail
  go_loopw [3] (fun i wr => ∃ k : Nat, i = .int .i64 (k : Int) ∧ k ≤ n ∧ Hid (marks (L.take k)) ∧ Hid (Below w.heap.size w wr)) (fun i _ => n - (intOf i).toNat)
  case atStart => exact ⟨0, rfl, Nat.zero_le _, Lib.hid List.Pairwise.nil, Lib.hid (Below.refl _ _)⟩
  case round =>
    obtain ⟨i, rfl, hi, HR, HB⟩ := hrel
    by_cases hlt : i < n
    · have d1 : decide ((i : Int) < (n : Int)) = true := decide_eq_true (by omega)
      have HSt := Lib.hid (marks_step (L := L) (i := i) (by rw [HN.out]; exact hlt) HR.out)
      have hiL : i < L.length := by rw [HN.out]; exact hlt
      have HNt := Lib.hid (fun k (hk : k < i) (h : ¬ okM L[k] L[i]) => marks_not hiL hk h)
      go_wp2_with fail
      go_loopw [4] (fun j wr => ∃ k : Nat, j = .int .i64 (k : Int) ∧ k ≤ i ∧ Hid (∀ j (hj : j < k) (hji : k ≤ i), okM (L[j]'(by omega)) L[i]) ∧ Hid (Below w.heap.size w wr)) (fun j _ => i - (intOf j).toNat)
      case atStart => exact ⟨0, rfl, Nat.zero_le _, Lib.hid (fun j hj => absurd hj (by omega)), HB⟩
      case round =>
        clear HB
        obtain ⟨k, rfl, hk, HA, HB⟩ := hrel
        by_cases hlt2 : k < i
        · have d2 : decide ((k : Int) < (i : Int)) = true := decide_eq_true (by omega)
          have hk0 : (0 : Int) ≤ (k : Int) := by omega
          have hkn : (k : Int) < (n : Int) := by omega
          have hi0 : (0 : Int) ≤ (i : Int) := by omega
          have hin : (i : Int) < (n : Int) := by omega
          obtain ⟨b, off, rfl, hbl, u0, u1⟩ := mark_cells (HS.out.keep HB.out) k (by omega)
          obtain ⟨b', off', e1, -, v0, v1⟩ := mark_cells (HS.out.keep HB.out) i hiL
          injection e1 with e1
          injection e1 with e2 e3
          subst e2 e3
          have HNk := Lib.hid (HNt.out k hlt2)
          have HAk := Lib.hid (fun (hok : okM (L[k]'(by omega)) L[i]) j (hj : j < k + 1) (hji : k + 1 ≤ i) => (by
            rcases Nat.lt_or_ge j k with h | h
            · exact HA.out j h (by omega)
            · obtain rfl : j = k := by omega
              exact hok : okM (L[j]'(by omega)) L[i]))
          have hw := mark_ways (L[k]'(by omega)) L[i]
          obtain ⟨X, hX⟩ : ∃ X, X = L[k]'(by omega) := ⟨_, rfl⟩
          obtain ⟨Y, hY⟩ : ∃ Y, Y = L[i] := ⟨_, rfl⟩
          have HOk := Lib.hid (show okM X Y → okM (L[k]'(by omega)) L[i] from fun h => by rw [← hX, ← hY]; exact h)
          rw [← hX] at u0 u1 hw HNk
          rw [← hY] at v0 v1 hw HNk
          obtain ⟨xn, x⟩ := X
          obtain ⟨yn, y⟩ := Y
          simp only at u0 u1 v0 v1 hw
          obtain ⟨A, hA⟩ : ∃ A : ByteArray, A = ⟨xn.toArray⟩ := ⟨_, rfl⟩
          obtain ⟨B, hB⟩ : ∃ B : ByteArray, B = ⟨yn.toArray⟩ := ⟨_, rfl⟩
          have hE : (A.toList == B.toList) = decide (xn = yn) := by rw [hA, hB, bytes_of, bytes_of]; rw [Bool.eq_iff_iff]; simp
          have hM : bytesLess A.toList B.toList = bytesLess xn yn := by rw [hA, hB, bytes_of, bytes_of]
          rw [← hA] at u0
          rw [← hB] at v0
          clear hX hY hA hB hbl
          rcases hw with ⟨t1, hno⟩ | ⟨t1, t2, hno⟩ | ⟨t1, t2, t3, t4, hno⟩ | ⟨t1, t2, t3, t4, hok⟩ | ⟨t1, t2, t3, hok⟩
          · have HF := Lib.hid (HNk.out hno)
            rw [t1] at hE
            clear hM t1 hno
            go_wp2_with fail
            go_quiet (fail)
            have hbq := drewN_below HB.out nq
            clear u0 u1 v0 v1
            generalize wr.drewN nq = wq at hbq ⊢
            go_wp2_with fail
            go_ret
            exact ⟨ret_bool (decide_eq_false HF.out).symm, hbq⟩
          · have HF := Lib.hid (HNk.out hno)
            rw [t1] at hE
            have t5 := of_decide_eq_true t2
            clear t1 hno
            go_wp2_with fail
            go_quiet (fail)
            have hbq := drewN_below HB.out nq
            clear u0 u1 v0 v1
            generalize wr.drewN nq = wq at hbq ⊢
            go_wp2_with fail
            go_ret
            exact ⟨ret_bool (decide_eq_false HF.out).symm, hbq⟩
          · have HF := Lib.hid (HNk.out hno)
            rw [t1] at hE
            have t5 := of_decide_eq_false t2
            rw [t4] at hM
            clear t4
            clear t1 hno
            go_wp2_with fail
            go_quiet (fail)
            have hbq := drewN_below HB.out nq
            clear u0 u1 v0 v1
            generalize wr.drewN nq = wq at hbq ⊢
            go_wp2_with fail
            go_ret
            exact ⟨ret_bool (decide_eq_false HF.out).symm, hbq⟩
          · have HF := Lib.hid (HAk.out (HOk.out hok))
            rw [t1] at hE
            have t5 := of_decide_eq_false t2
            rw [t4] at hM
            clear t4
            clear t1 hok
            go_wp2_with fail
            go_quiet (fail)
            have hbq := drewN_below HB.out nq
            clear u0 u1 v0 v1
            generalize wr.drewN nq = wq at hbq ⊢
            go_wp2_with fail
            go_roundw
            case rel => exact ⟨k + 1, by go_num, by omega, HF, Lib.hid hbq⟩
            case measure => simp [intOf]; omega
          · have HF := Lib.hid (HAk.out (HOk.out hok))
            rw [t1] at hE
            have t5 := of_decide_eq_false t2
            clear t1 hok
            go_wp2_with fail
            go_quiet (fail)
            have hbq := drewN_below HB.out nq
            clear u0 u1 v0 v1
            generalize wr.drewN nq = wq at hbq ⊢
            go_wp2_with fail
            go_roundw
            case rel => exact ⟨k + 1, by go_num, by omega, HF, Lib.hid hbq⟩
            case measure => simp [intOf]; omega
        · have d2 : decide ((k : Int) < (i : Int)) = false := decide_eq_false (by omega)
          have HG := Lib.hid (HSt.out (fun j hj => HA.out j (by omega) hk))
          go_wp2_with fail
          go_roundw
          case rel => exact ⟨i + 1, by go_num, by omega, HG, HB⟩
          case measure => simp [intOf]; omega
    · have d1 : decide ((i : Int) < (n : Int)) = false := decide_eq_false (by omega)
      have HX := Lib.hid (show decide (marks L) = true from decide_eq_true (by
        have h := HR.out
        rw [List.take_of_length_le (by rw [HN.out]; omega)] at h
        exact h))
      go_wp2_with fail
      go_ret
      exact ⟨ret_bool HX.out.symm, HB.out⟩

end Go.Proofs.YtodpocciimbjbaaDoor.RefV
