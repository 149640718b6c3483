/-
  The landed code of layer 9: whether a value has something that its kind does not have.
-/
import Derived.Test.YtljhcakfbdbmpaaRefVal2
namespace Go.Proofs.Ytljhcakfbdbmpaa.ValM
open Go.RowKit Kit StrT RowG BOrd ValT RefV
set_option linter.unusedVariables false
set_option maxRecDepth 100000

def straysB (d : V) : Bool := (!decide (d.s = []) && !decide (d.kind = 1)) || (!decide (d.l = []) && !decide (d.kind = 2) && !decide (d.kind = 4)) || (!decide (d.h = []) && !decide (d.kind = 3)) || (!decide (d.z = []) && !decide (d.kind = 5))
theorem more_fact (n : Nat) : decide ((0 : Int) < (n : Int)) = !decide (n = 0) := by
  rw [Bool.eq_iff_iff]
  simp
  omega
set_option maxHeartbeats 8000000 in
theorem strays_any (k : Int) (S : ByteArray) (ql : Option Addr) (nl cl : Nat) (qh : Option Addr) (nh ch : Nat) (qz : Option Addr) (nz cz : Nat) (d : V) (w : World) (H : VIn w k S ql nl cl qh nh ch qz nz cz d) :
    Calls Try.prog 19 #[.agg #[.int .u8 k, .string S, .slice ql nl cl, .slice qh nh ch, .slice qz nz cz]] w fun e w' => e = .returned (.bool (straysB d)) ∧ Below w.heap.size w w' := by
  have HC := Lib.hid (VCells.new w (.int .u8 k) (.string S) (.slice ql nl cl) (.slice qh nh ch) (.slice qz nz cz) w.heap.size rfl)
  have HB := Lib.hid (show Below w.heap.size w (w.alloc (.cells #[.int .u8 k, .string S, .slice ql nl cl, .slice qh nh ch, .slice qz nz cz] 26)) from (Below.refl _ _).alloc (Nat.le_refl _) _)
  obtain ⟨f1, f2, f3⟩ := empty_fact H.es
  have f4 : (S.toList != []) = !decide (d.s = []) := by rw [bne, f1]
  have f5 : (S.toList != (⟨#[]⟩ : ByteArray).toList) = !decide (d.s = []) := by rw [bne, f3]
  have g1 := (more_fact nl).trans (congrArg (!·) (len_nil H.ll))
  have g2 := (more_fact nh).trans (congrArg (!·) (len_nil H.lh))
  have g3 := (more_fact nz).trans (congrArg (!·) (len_nil H.lz))
  have HQ := Lib.hid (show straysB d = ((!decide (d.s = []) && !decide (d.kind = 1)) || (!decide (d.l = []) && !decide (d.kind = 2) && !decide (d.kind = 4)) || (!decide (d.h = []) && !decide (d.kind = 3)) || (!decide (d.z = []) && !decide (d.kind = 5))) from rfl)
  have ek := H.ek
  have kb := H.kb
  have hfl := H.fl
  have hfh := H.fh
  have hfz := H.fz
  obtain ⟨tx, htx⟩ : ∃ tx, tx = decide (d.s = []) := ⟨_, rfl⟩
  obtain ⟨ro, hro⟩ : ∃ ro, ro = decide (d.l = []) := ⟨_, rfl⟩
  obtain ⟨ha, hha⟩ : ∃ ha, ha = decide (d.h = []) := ⟨_, rfl⟩
  obtain ⟨so, hso⟩ : ∃ so, so = decide (d.z = []) := ⟨_, rfl⟩
  rw [← htx] at f1 f2 f3 f4 f5 HQ
  rw [← hro] at g1 HQ
  rw [← hha] at g2 HQ
  rw [← hso] at g3 HQ
  clear htx hro hha hso H
  obtain ⟨-, -, c0, c1, c2, c3, c4⟩ := HC.out
  cases tx with
  | true =>
    simp only [Bool.not_true] at f4 f5
    cases ro with
    | true =>
      obtain rfl : nl = 0 := by simpa using g1
      clear g1
      cases ha with
      | true =>
        obtain rfl : nh = 0 := by simpa using g2
        clear g2
        cases so with
        | true =>
          obtain rfl : nz = 0 := by simpa using g3
          clear g3
          clear ek kb
          go_enter Try.func19, Try.ntmps19
          go_wp2_with fail
          go_ret
          exact ⟨ret_bool (by rw [HQ.out]; simp ), HB.out⟩
        | false =>
          have pnz : 0 < nz := by simpa using g3
          have rnz : decide (0 < nz) = true := decide_eq_true pnz
          simp only [Bool.not_false] at g3
          by_cases hk : d.kind = 5
          · obtain rfl : k = 5 := by omega
            have x1 : decide (d.kind = 1) = false := decide_eq_false (by omega)
            have x2 : decide (d.kind = 2) = false := decide_eq_false (by omega)
            have x3 : decide (d.kind = 3) = false := decide_eq_false (by omega)
            have x4 : decide (d.kind = 4) = false := decide_eq_false (by omega)
            have x5 : decide (d.kind = 5) = true := decide_eq_true (by omega)
            clear ek kb
            go_enter Try.func19, Try.ntmps19
            go_wp2_with fail
            go_ret
            exact ⟨ret_bool (by rw [HQ.out]; simp [x1, x2, x3, x4, x5]), HB.out⟩
          · have n5 : (k != 5) = true := bne_iff_ne.2 (by omega)
            have m5 : (k == 5) = false := beq_eq_false_iff_ne.2 (by omega)
            have x5 : decide (d.kind = 5) = false := decide_eq_false (by omega)
            clear ek kb
            go_enter Try.func19, Try.ntmps19
            go_wp2_with fail
            go_ret
            exact ⟨ret_bool (by rw [HQ.out]; simp [x5]), HB.out⟩
      | false =>
        have pnh : 0 < nh := by simpa using g2
        have rnh : decide (0 < nh) = true := decide_eq_true pnh
        simp only [Bool.not_false] at g2
        by_cases hk : d.kind = 3
        · obtain rfl : k = 3 := by omega
          have x1 : decide (d.kind = 1) = false := decide_eq_false (by omega)
          have x2 : decide (d.kind = 2) = false := decide_eq_false (by omega)
          have x3 : decide (d.kind = 3) = true := decide_eq_true (by omega)
          have x4 : decide (d.kind = 4) = false := decide_eq_false (by omega)
          have x5 : decide (d.kind = 5) = false := decide_eq_false (by omega)
          cases so with
          | true =>
            obtain rfl : nz = 0 := by simpa using g3
            clear g3
            clear ek kb
            go_enter Try.func19, Try.ntmps19
            go_wp2_with fail
            go_ret
            exact ⟨ret_bool (by rw [HQ.out]; simp [x1, x2, x3, x4, x5]), HB.out⟩
          | false =>
            have pnz : 0 < nz := by simpa using g3
            have rnz : decide (0 < nz) = true := decide_eq_true pnz
            simp only [Bool.not_false] at g3
            clear ek kb
            go_enter Try.func19, Try.ntmps19
            go_wp2_with fail
            go_ret
            exact ⟨ret_bool (by rw [HQ.out]; simp [x1, x2, x3, x4, x5]), HB.out⟩
        · have n3 : (k != 3) = true := bne_iff_ne.2 (by omega)
          have m3 : (k == 3) = false := beq_eq_false_iff_ne.2 (by omega)
          have x3 : decide (d.kind = 3) = false := decide_eq_false (by omega)
          clear ek kb
          go_enter Try.func19, Try.ntmps19
          go_wp2_with fail
          go_ret
          exact ⟨ret_bool (by rw [HQ.out]; simp [x3]), HB.out⟩
    | false =>
      have pnl : 0 < nl := by simpa using g1
      have rnl : decide (0 < nl) = true := decide_eq_true pnl
      simp only [Bool.not_false] at g1
      by_cases hk : d.kind = 2
      · obtain rfl : k = 2 := by omega
        have x1 : decide (d.kind = 1) = false := decide_eq_false (by omega)
        have x2 : decide (d.kind = 2) = true := decide_eq_true (by omega)
        have x3 : decide (d.kind = 3) = false := decide_eq_false (by omega)
        have x4 : decide (d.kind = 4) = false := decide_eq_false (by omega)
        have x5 : decide (d.kind = 5) = false := decide_eq_false (by omega)
        cases ha with
        | true =>
          obtain rfl : nh = 0 := by simpa using g2
          clear g2
          cases so with
          | true =>
            obtain rfl : nz = 0 := by simpa using g3
            clear g3
            clear ek kb
            go_enter Try.func19, Try.ntmps19
            go_wp2_with fail
            go_ret
            exact ⟨ret_bool (by rw [HQ.out]; simp [x1, x2, x3, x4, x5]), HB.out⟩
          | false =>
            have pnz : 0 < nz := by simpa using g3
            have rnz : decide (0 < nz) = true := decide_eq_true pnz
            simp only [Bool.not_false] at g3
            clear ek kb
            go_enter Try.func19, Try.ntmps19
            go_wp2_with fail
            go_ret
            exact ⟨ret_bool (by rw [HQ.out]; simp [x1, x2, x3, x4, x5]), HB.out⟩
        | false =>
          have pnh : 0 < nh := by simpa using g2
          have rnh : decide (0 < nh) = true := decide_eq_true pnh
          simp only [Bool.not_false] at g2
          clear ek kb
          go_enter Try.func19, Try.ntmps19
          go_wp2_with fail
          go_ret
          exact ⟨ret_bool (by rw [HQ.out]; simp [x1, x2, x3, x4, x5]), HB.out⟩
      · by_cases hk : d.kind = 4
        · obtain rfl : k = 4 := by omega
          have x1 : decide (d.kind = 1) = false := decide_eq_false (by omega)
          have x2 : decide (d.kind = 2) = false := decide_eq_false (by omega)
          have x3 : decide (d.kind = 3) = false := decide_eq_false (by omega)
          have x4 : decide (d.kind = 4) = true := decide_eq_true (by omega)
          have x5 : decide (d.kind = 5) = false := decide_eq_false (by omega)
          cases ha with
          | true =>
            obtain rfl : nh = 0 := by simpa using g2
            clear g2
            cases so with
            | true =>
              obtain rfl : nz = 0 := by simpa using g3
              clear g3
              clear ek kb
              go_enter Try.func19, Try.ntmps19
              go_wp2_with fail
              go_ret
              exact ⟨ret_bool (by rw [HQ.out]; simp [x1, x2, x3, x4, x5]), HB.out⟩
            | false =>
              have pnz : 0 < nz := by simpa using g3
              have rnz : decide (0 < nz) = true := decide_eq_true pnz
              simp only [Bool.not_false] at g3
              clear ek kb
              go_enter Try.func19, Try.ntmps19
              go_wp2_with fail
              go_ret
              exact ⟨ret_bool (by rw [HQ.out]; simp [x1, x2, x3, x4, x5]), HB.out⟩
          | false =>
            have pnh : 0 < nh := by simpa using g2
            have rnh : decide (0 < nh) = true := decide_eq_true pnh
            simp only [Bool.not_false] at g2
            clear ek kb
            go_enter Try.func19, Try.ntmps19
            go_wp2_with fail
            go_ret
            exact ⟨ret_bool (by rw [HQ.out]; simp [x1, x2, x3, x4, x5]), HB.out⟩
        · have n2 : (k != 2) = true := bne_iff_ne.2 (by omega)
          have m2 : (k == 2) = false := beq_eq_false_iff_ne.2 (by omega)
          have x2 : decide (d.kind = 2) = false := decide_eq_false (by omega)
          have n4 : (k != 4) = true := bne_iff_ne.2 (by omega)
          have m4 : (k == 4) = false := beq_eq_false_iff_ne.2 (by omega)
          have x4 : decide (d.kind = 4) = false := decide_eq_false (by omega)
          clear ek kb
          go_enter Try.func19, Try.ntmps19
          go_wp2_with fail
          go_ret
          exact ⟨ret_bool (by rw [HQ.out]; simp [x2, x4]), HB.out⟩
  | false =>
    simp only [Bool.not_false] at f4 f5
    by_cases hk : d.kind = 1
    · obtain rfl : k = 1 := by omega
      have x1 : decide (d.kind = 1) = true := decide_eq_true (by omega)
      have x2 : decide (d.kind = 2) = false := decide_eq_false (by omega)
      have x3 : decide (d.kind = 3) = false := decide_eq_false (by omega)
      have x4 : decide (d.kind = 4) = false := decide_eq_false (by omega)
      have x5 : decide (d.kind = 5) = false := decide_eq_false (by omega)
      cases ro with
      | true =>
        obtain rfl : nl = 0 := by simpa using g1
        clear g1
        cases ha with
        | true =>
          obtain rfl : nh = 0 := by simpa using g2
          clear g2
          cases so with
          | true =>
            obtain rfl : nz = 0 := by simpa using g3
            clear g3
            clear ek kb
            go_enter Try.func19, Try.ntmps19
            go_wp2_with fail
            go_ret
            exact ⟨ret_bool (by rw [HQ.out]; simp [x1, x2, x3, x4, x5]), HB.out⟩
          | false =>
            have pnz : 0 < nz := by simpa using g3
            have rnz : decide (0 < nz) = true := decide_eq_true pnz
            simp only [Bool.not_false] at g3
            clear ek kb
            go_enter Try.func19, Try.ntmps19
            go_wp2_with fail
            go_ret
            exact ⟨ret_bool (by rw [HQ.out]; simp [x1, x2, x3, x4, x5]), HB.out⟩
        | false =>
          have pnh : 0 < nh := by simpa using g2
          have rnh : decide (0 < nh) = true := decide_eq_true pnh
          simp only [Bool.not_false] at g2
          clear ek kb
          go_enter Try.func19, Try.ntmps19
          go_wp2_with fail
          go_ret
          exact ⟨ret_bool (by rw [HQ.out]; simp [x1, x2, x3, x4, x5]), HB.out⟩
      | false =>
        have pnl : 0 < nl := by simpa using g1
        have rnl : decide (0 < nl) = true := decide_eq_true pnl
        simp only [Bool.not_false] at g1
        clear ek kb
        go_enter Try.func19, Try.ntmps19
        go_wp2_with fail
        go_ret
        exact ⟨ret_bool (by rw [HQ.out]; simp [x1, x2, x3, x4, x5]), HB.out⟩
    · have n1 : (k != 1) = true := bne_iff_ne.2 (by omega)
      have m1 : (k == 1) = false := beq_eq_false_iff_ne.2 (by omega)
      have x1 : decide (d.kind = 1) = false := decide_eq_false (by omega)
      clear ek kb
      go_enter Try.func19, Try.ntmps19
      go_wp2_with fail
      go_ret
      exact ⟨ret_bool (by rw [HQ.out]; simp [x1]), HB.out⟩

theorem right_strays (d : V) : rightB d = (!straysB d && (if d.kind = 0 ∨ d.kind = 1 then true else if d.kind = 2 then !decide (d.l = []) else if d.kind = 3 then !decide (d.h = []) && decide (rises (names d.h)) else if d.kind = 4 then !decide (d.l = []) && decide (rises d.l) else if d.kind = 5 then !decide (d.z = []) && decide (marks d.z) else false)) := by
  rw [right_kinds]
  unfold straysB
  obtain ⟨k, s, l, h, z⟩ := d
  simp only
  obtain ⟨tx, htx⟩ : ∃ tx, tx = decide (s = []) := ⟨_, rfl⟩
  obtain ⟨ro, hro⟩ : ∃ ro, ro = decide (l = []) := ⟨_, rfl⟩
  obtain ⟨ha, hha⟩ : ∃ ha, ha = decide (h = []) := ⟨_, rfl⟩
  obtain ⟨so, hso⟩ : ∃ so, so = decide (z = []) := ⟨_, rfl⟩
  rw [← htx, ← hro, ← hha, ← hso]
  clear htx hro hha hso
  rcases (by omega : k = 0 ∨ k = 1 ∨ k = 2 ∨ k = 3 ∨ k = 4 ∨ k = 5 ∨ 6 ≤ k) with rfl | rfl | rfl | rfl | rfl | rfl | hk
  · cases tx <;> cases ro <;> cases ha <;> cases so <;> rfl
  · cases tx <;> cases ro <;> cases ha <;> cases so <;> rfl
  · cases tx <;> cases ro <;> cases ha <;> cases so <;> rfl
  · cases tx <;> cases ro <;> cases ha <;> cases so <;> simp
  · cases tx <;> cases ro <;> cases ha <;> cases so <;> simp
  · cases tx <;> cases ro <;> cases ha <;> cases so <;> simp
  · rw [if_neg (by omega), if_neg (by omega), if_neg (by omega), if_neg (by omega), if_neg (by omega), if_neg (by omega), if_neg (by omega), if_neg (by omega), if_neg (by omega), if_neg (by omega), if_neg (by omega), Bool.and_false]

end Go.Proofs.Ytljhcakfbdbmpaa.ValM
