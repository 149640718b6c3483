/-
  The document's own answers of layer 9 (package tipstaffref09): whether a value may be.
-/
import Derived.Test.YtodpocciimbjbaaDoorRefVal1
namespace Go.Proofs.YtodpocciimbjbaaDoor.RefV
open Go.RowKit Kit StrT RowG BOrd ValT
open Go.Op (bytesLess)
set_option linter.unusedVariables false
set_option maxRecDepth 100000

theorem empty_fact {S : ByteArray} {l : List UInt8} (h : S.data.toList = l) : (S.toList == []) = decide (l = []) ∧ S.toList.isEmpty = decide (l = []) ∧ (S.toList == (⟨#[]⟩ : ByteArray).toList) = decide (l = []) := by
  rw [ByteArray.toList_eq, ByteArray.toList_eq, h]
  cases l <;> simp
theorem nought_fact (n : Nat) : ((n : Int) == 0) = decide (n = 0) := by
  rw [Bool.eq_iff_iff, beq_iff_eq, decide_eq_true_eq]
  omega
theorem len_nil {α : Type} {l : List α} {n : Nat} (h : l.length = n) : decide (n = 0) = decide (l = []) := by
  subst h
  cases l <;> simp
theorem right_kinds (d : V) : rightB d = (if d.kind = 0 then decide (d.s = []) && decide (d.l = []) && decide (d.h = []) && decide (d.z = []) else if d.kind = 1 then decide (d.l = []) && decide (d.h = []) && decide (d.z = [])
    else if d.kind = 2 then decide (d.s = []) && !decide (d.l = []) && decide (d.h = []) && decide (d.z = []) else if d.kind = 3 then decide (d.s = []) && decide (d.l = []) && !decide (d.h = []) && decide (d.z = []) && decide (rises (names d.h))
    else if d.kind = 4 then decide (d.s = []) && !decide (d.l = []) && decide (d.h = []) && decide (d.z = []) && decide (rises d.l) else if d.kind = 5 then decide (d.s = []) && decide (d.l = []) && decide (d.h = []) && !decide (d.z = []) && decide (marks d.z) else false) := by
  have hr : rightB d = true ↔ right d := by
    unfold rightB
    exact decide_eq_true_iff
  rw [Bool.eq_iff_iff, hr]
  unfold right
  split
  · rename_i h; simp [h, and_assoc]
  split
  · rename_i h; simp [h, and_assoc]
  split
  · rename_i h; simp [h, and_assoc]
  split
  · rename_i h; simp [h, and_assoc]
  split
  · rename_i h; simp [h, and_assoc]
  split
  · rename_i h; simp [h, and_assoc]
  · rename_i h0 h1 h2 h3 h4 h5
    simp [h0, h1, h2, h3, h4, h5]

theorem right_k0 (d : V) (hk : d.kind = 0) : rightB d = (decide (d.s = []) && decide (d.l = []) && decide (d.h = []) && decide (d.z = [])) := by
  rw [right_kinds, if_pos hk]
theorem right_k1 (d : V) (hk : d.kind = 1) : rightB d = (decide (d.l = []) && decide (d.h = []) && decide (d.z = [])) := by
  rw [right_kinds, if_neg (by omega), if_pos hk]
theorem right_k2 (d : V) (hk : d.kind = 2) : rightB d = (decide (d.s = []) && !decide (d.l = []) && decide (d.h = []) && decide (d.z = [])) := by
  rw [right_kinds, if_neg (by omega), if_neg (by omega), if_pos hk]
theorem right_k3 (d : V) (hk : d.kind = 3) : rightB d = (decide (d.s = []) && decide (d.l = []) && !decide (d.h = []) && decide (d.z = []) && decide (rises (names d.h))) := by
  rw [right_kinds, if_neg (by omega), if_neg (by omega), if_neg (by omega), if_pos hk]
theorem right_k4 (d : V) (hk : d.kind = 4) : rightB d = (decide (d.s = []) && !decide (d.l = []) && decide (d.h = []) && decide (d.z = []) && decide (rises d.l)) := by
  rw [right_kinds, if_neg (by omega), if_neg (by omega), if_neg (by omega), if_neg (by omega), if_pos hk]
theorem right_k5 (d : V) (hk : d.kind = 5) : rightB d = (decide (d.s = []) && decide (d.l = []) && decide (d.h = []) && !decide (d.z = []) && decide (marks d.z)) := by
  rw [right_kinds, if_neg (by omega), if_neg (by omega), if_neg (by omega), if_neg (by omega), if_neg (by omega), if_pos hk]

set_option maxHeartbeats 8000000 in
theorem rright_0 (k : Int) (S : ByteArray) (ql : Option Addr) (nl cl : Nat) (qh : Option Addr) (nh ch : Nat) (qz : Option Addr) (nz cz : Nat) (d : V) (w : World) (H : VIn w k S ql nl cl qh nh ch qz nz cz d) (hk : d.kind = 0) :
    Calls Tryd.prog 17 #[.agg #[.int .u8 k, .string S, .slice ql nl cl, .slice qh nh ch, .slice qz nz cz]] w fun e w' => e = .returned (.bool (rightB d)) ∧ Below w.heap.size w w' := by
  have HV := Lib.hid H
  have HR := Lib.hid (right_k0 d hk)
  obtain ⟨f1, f2, f3⟩ := empty_fact H.es
  have g1 := (nought_fact nl).trans (len_nil H.ll)
  have g2 := (nought_fact nh).trans (len_nil H.lh)
  have g3 := (nought_fact nz).trans (len_nil H.lz)
  have e1 := len_nil H.ll
  have e2 := len_nil H.lh
  have e3 := len_nil H.lz
  obtain ⟨tx, htx⟩ : ∃ tx, tx = decide (d.s = []) := ⟨_, rfl⟩
  obtain ⟨ro, hro⟩ : ∃ ro, ro = decide (d.l = []) := ⟨_, rfl⟩
  obtain ⟨ha, hha⟩ : ∃ ha, ha = decide (d.h = []) := ⟨_, rfl⟩
  obtain ⟨so, hso⟩ : ∃ so, so = decide (d.z = []) := ⟨_, rfl⟩
  rw [← htx] at f1 f2 f3 HR
  rw [← hro] at g1 e1 HR
  rw [← hha] at g2 e2 HR
  rw [← hso] at g3 e3 HR
  have hbl := H.fl
  have hbh := H.fh
  have hbz := H.fz
  clear htx hro hha hso
  have HC := Lib.hid (VCells.new w (.int .u8 k) (.string S) (.slice ql nl cl) (.slice qh nh ch) (.slice qz nz cz) w.heap.size rfl)
  have HB := Lib.hid (show Below w.heap.size w (w.alloc (.cells #[.int .u8 k, .string S, .slice ql nl cl, .slice qh nh ch, .slice qz nz cz] 26)) from (Below.refl _ _).alloc (Nat.le_refl _) _)
  obtain rfl : k = 0 := by rw [H.ek, hk]; rfl
  clear H hk
  have hw : (tx = false) ∨ (tx = true ∧ ro = false) ∨ (tx = true ∧ ro = true ∧ ha = false) ∨ (tx = true ∧ ro = true ∧ ha = true ∧ so = false) ∨ (tx = true ∧ ro = true ∧ ha = true ∧ so = true) := by
    cases tx <;> cases ro <;> cases ha <;> cases so <;> simp
  rcases hw with rfl | ⟨rfl, rfl⟩ | ⟨rfl, rfl, rfl⟩ | ⟨rfl, rfl, rfl, rfl⟩ | ⟨rfl, rfl, rfl, rfl⟩
  · obtain ⟨-, -, c0, c1, c2, c3, c4⟩ := HC.out
    go_enter Tryd.func17, Tryd.ntmps17
    go_wp2_with fail
    go_ret
    exact ⟨ret_bool (by rw [HR.out]; simp), HB.out⟩
  · obtain ⟨-, -, c0, c1, c2, c3, c4⟩ := HC.out
    go_enter Tryd.func17, Tryd.ntmps17
    go_wp2_with fail
    go_ret
    exact ⟨ret_bool (by rw [HR.out]; simp), HB.out⟩
  · obtain ⟨-, -, c0, c1, c2, c3, c4⟩ := HC.out
    go_enter Tryd.func17, Tryd.ntmps17
    go_wp2_with fail
    go_ret
    exact ⟨ret_bool (by rw [HR.out]; simp), HB.out⟩
  · obtain ⟨-, -, c0, c1, c2, c3, c4⟩ := HC.out
    go_enter Tryd.func17, Tryd.ntmps17
    go_wp2_with fail
    go_ret
    exact ⟨ret_bool (by rw [HR.out]; simp), HB.out⟩
  · obtain ⟨-, -, c0, c1, c2, c3, c4⟩ := HC.out
    go_enter Tryd.func17, Tryd.ntmps17
    go_wp2_with fail
    go_ret
    exact ⟨ret_bool (by rw [HR.out]; simp), HB.out⟩

set_option maxHeartbeats 8000000 in
theorem rright_1 (k : Int) (S : ByteArray) (ql : Option Addr) (nl cl : Nat) (qh : Option Addr) (nh ch : Nat) (qz : Option Addr) (nz cz : Nat) (d : V) (w : World) (H : VIn w k S ql nl cl qh nh ch qz nz cz d) (hk : d.kind = 1) :
    Calls Tryd.prog 17 #[.agg #[.int .u8 k, .string S, .slice ql nl cl, .slice qh nh ch, .slice qz nz cz]] w fun e w' => e = .returned (.bool (rightB d)) ∧ Below w.heap.size w w' := by
  have HV := Lib.hid H
  have HR := Lib.hid (right_k1 d hk)
  obtain ⟨f1, f2, f3⟩ := empty_fact H.es
  have g1 := (nought_fact nl).trans (len_nil H.ll)
  have g2 := (nought_fact nh).trans (len_nil H.lh)
  have g3 := (nought_fact nz).trans (len_nil H.lz)
  have e1 := len_nil H.ll
  have e2 := len_nil H.lh
  have e3 := len_nil H.lz
  obtain ⟨tx, htx⟩ : ∃ tx, tx = decide (d.s = []) := ⟨_, rfl⟩
  obtain ⟨ro, hro⟩ : ∃ ro, ro = decide (d.l = []) := ⟨_, rfl⟩
  obtain ⟨ha, hha⟩ : ∃ ha, ha = decide (d.h = []) := ⟨_, rfl⟩
  obtain ⟨so, hso⟩ : ∃ so, so = decide (d.z = []) := ⟨_, rfl⟩
  rw [← htx] at f1 f2 f3
  rw [← hro] at g1 e1 HR
  rw [← hha] at g2 e2 HR
  rw [← hso] at g3 e3 HR
  have hbl := H.fl
  have hbh := H.fh
  have hbz := H.fz
  clear htx hro hha hso
  have HC := Lib.hid (VCells.new w (.int .u8 k) (.string S) (.slice ql nl cl) (.slice qh nh ch) (.slice qz nz cz) w.heap.size rfl)
  have HB := Lib.hid (show Below w.heap.size w (w.alloc (.cells #[.int .u8 k, .string S, .slice ql nl cl, .slice qh nh ch, .slice qz nz cz] 26)) from (Below.refl _ _).alloc (Nat.le_refl _) _)
  obtain rfl : k = 1 := by rw [H.ek, hk]; rfl
  clear H hk
  have hw : (ro = false) ∨ (ro = true ∧ ha = false) ∨ (ro = true ∧ ha = true ∧ so = false) ∨ (ro = true ∧ ha = true ∧ so = true) := by
    cases tx <;> cases ro <;> cases ha <;> cases so <;> simp
  rcases hw with rfl | ⟨rfl, rfl⟩ | ⟨rfl, rfl, rfl⟩ | ⟨rfl, rfl, rfl⟩
  · obtain ⟨-, -, c0, c1, c2, c3, c4⟩ := HC.out
    go_enter Tryd.func17, Tryd.ntmps17
    go_wp2_with fail
    go_ret
    exact ⟨ret_bool (by rw [HR.out]; simp), HB.out⟩
  · obtain ⟨-, -, c0, c1, c2, c3, c4⟩ := HC.out
    go_enter Tryd.func17, Tryd.ntmps17
    go_wp2_with fail
    go_ret
    exact ⟨ret_bool (by rw [HR.out]; simp), HB.out⟩
  · obtain ⟨-, -, c0, c1, c2, c3, c4⟩ := HC.out
    go_enter Tryd.func17, Tryd.ntmps17
    go_wp2_with fail
    go_ret
    exact ⟨ret_bool (by rw [HR.out]; simp), HB.out⟩
  · obtain ⟨-, -, c0, c1, c2, c3, c4⟩ := HC.out
    go_enter Tryd.func17, Tryd.ntmps17
    go_wp2_with fail
    go_ret
    exact ⟨ret_bool (by rw [HR.out]; simp), HB.out⟩

set_option maxHeartbeats 8000000 in
theorem rright_2 (k : Int) (S : ByteArray) (ql : Option Addr) (nl cl : Nat) (qh : Option Addr) (nh ch : Nat) (qz : Option Addr) (nz cz : Nat) (d : V) (w : World) (H : VIn w k S ql nl cl qh nh ch qz nz cz d) (hk : d.kind = 2) :
    Calls Tryd.prog 17 #[.agg #[.int .u8 k, .string S, .slice ql nl cl, .slice qh nh ch, .slice qz nz cz]] w fun e w' => e = .returned (.bool (rightB d)) ∧ Below w.heap.size w w' := by
  have HV := Lib.hid H
  have HR := Lib.hid (right_k2 d hk)
  obtain ⟨f1, f2, f3⟩ := empty_fact H.es
  have g1 := (nought_fact nl).trans (len_nil H.ll)
  have g2 := (nought_fact nh).trans (len_nil H.lh)
  have g3 := (nought_fact nz).trans (len_nil H.lz)
  have e1 := len_nil H.ll
  have e2 := len_nil H.lh
  have e3 := len_nil H.lz
  obtain ⟨tx, htx⟩ : ∃ tx, tx = decide (d.s = []) := ⟨_, rfl⟩
  obtain ⟨ro, hro⟩ : ∃ ro, ro = decide (d.l = []) := ⟨_, rfl⟩
  obtain ⟨ha, hha⟩ : ∃ ha, ha = decide (d.h = []) := ⟨_, rfl⟩
  obtain ⟨so, hso⟩ : ∃ so, so = decide (d.z = []) := ⟨_, rfl⟩
  rw [← htx] at f1 f2 f3 HR
  rw [← hro] at g1 e1 HR
  rw [← hha] at g2 e2 HR
  rw [← hso] at g3 e3 HR
  have hbl := H.fl
  have hbh := H.fh
  have hbz := H.fz
  clear htx hro hha hso
  have HC := Lib.hid (VCells.new w (.int .u8 k) (.string S) (.slice ql nl cl) (.slice qh nh ch) (.slice qz nz cz) w.heap.size rfl)
  have HB := Lib.hid (show Below w.heap.size w (w.alloc (.cells #[.int .u8 k, .string S, .slice ql nl cl, .slice qh nh ch, .slice qz nz cz] 26)) from (Below.refl _ _).alloc (Nat.le_refl _) _)
  obtain rfl : k = 2 := by rw [H.ek, hk]; rfl
  clear H hk
  have hw : (tx = false) ∨ (tx = true ∧ ro = true) ∨ (tx = true ∧ ro = false ∧ ha = false) ∨ (tx = true ∧ ro = false ∧ ha = true ∧ so = false) ∨ (tx = true ∧ ro = false ∧ ha = true ∧ so = true) := by
    cases tx <;> cases ro <;> cases ha <;> cases so <;> simp
  rcases hw with rfl | ⟨rfl, rfl⟩ | ⟨rfl, rfl, rfl⟩ | ⟨rfl, rfl, rfl, rfl⟩ | ⟨rfl, rfl, rfl, rfl⟩
  · obtain ⟨-, -, c0, c1, c2, c3, c4⟩ := HC.out
    go_enter Tryd.func17, Tryd.ntmps17
    go_wp2_with fail
    go_ret
    exact ⟨ret_bool (by rw [HR.out]; simp), HB.out⟩
  · obtain ⟨-, -, c0, c1, c2, c3, c4⟩ := HC.out
    go_enter Tryd.func17, Tryd.ntmps17
    go_wp2_with fail
    go_ret
    exact ⟨ret_bool (by rw [HR.out]; simp), HB.out⟩
  · obtain ⟨-, -, c0, c1, c2, c3, c4⟩ := HC.out
    go_enter Tryd.func17, Tryd.ntmps17
    go_wp2_with fail
    go_ret
    exact ⟨ret_bool (by rw [HR.out]; simp), HB.out⟩
  · obtain ⟨-, -, c0, c1, c2, c3, c4⟩ := HC.out
    go_enter Tryd.func17, Tryd.ntmps17
    go_wp2_with fail
    go_ret
    exact ⟨ret_bool (by rw [HR.out]; simp), HB.out⟩
  · obtain ⟨-, -, c0, c1, c2, c3, c4⟩ := HC.out
    go_enter Tryd.func17, Tryd.ntmps17
    go_wp2_with fail
    go_ret
    exact ⟨ret_bool (by rw [HR.out]; simp), HB.out⟩

set_option maxHeartbeats 8000000 in
theorem rright_3 (k : Int) (S : ByteArray) (ql : Option Addr) (nl cl : Nat) (qh : Option Addr) (nh ch : Nat) (qz : Option Addr) (nz cz : Nat) (d : V) (w : World) (H : VIn w k S ql nl cl qh nh ch qz nz cz d) (hk : d.kind = 3) :
    Calls Tryd.prog 17 #[.agg #[.int .u8 k, .string S, .slice ql nl cl, .slice qh nh ch, .slice qz nz cz]] w fun e w' => e = .returned (.bool (rightB d)) ∧ Below w.heap.size w w' := by
  have HV := Lib.hid H
  have HR := Lib.hid (right_k3 d hk)
  obtain ⟨f1, f2, f3⟩ := empty_fact H.es
  have g1 := (nought_fact nl).trans (len_nil H.ll)
  have g2 := (nought_fact nh).trans (len_nil H.lh)
  have g3 := (nought_fact nz).trans (len_nil H.lz)
  have e1 := len_nil H.ll
  have e2 := len_nil H.lh
  have e3 := len_nil H.lz
  obtain ⟨tx, htx⟩ : ∃ tx, tx = decide (d.s = []) := ⟨_, rfl⟩
  obtain ⟨ro, hro⟩ : ∃ ro, ro = decide (d.l = []) := ⟨_, rfl⟩
  obtain ⟨ha, hha⟩ : ∃ ha, ha = decide (d.h = []) := ⟨_, rfl⟩
  obtain ⟨so, hso⟩ : ∃ so, so = decide (d.z = []) := ⟨_, rfl⟩
  rw [← htx] at f1 f2 f3 HR
  rw [← hro] at g1 e1 HR
  rw [← hha] at g2 e2 HR
  rw [← hso] at g3 e3 HR
  have hbl := H.fl
  have hbh := H.fh
  have hbz := H.fz
  clear htx hro hha hso
  have HC := Lib.hid (VCells.new w (.int .u8 k) (.string S) (.slice ql nl cl) (.slice qh nh ch) (.slice qz nz cz) w.heap.size rfl)
  have HB := Lib.hid (show Below w.heap.size w (w.alloc (.cells #[.int .u8 k, .string S, .slice ql nl cl, .slice qh nh ch, .slice qz nz cz] 26)) from (Below.refl _ _).alloc (Nat.le_refl _) _)
  obtain rfl : k = 3 := by rw [H.ek, hk]; rfl
  clear H hk
  have hw : (tx = false) ∨ (tx = true ∧ ro = false) ∨ (tx = true ∧ ro = true ∧ ha = true) ∨ (tx = true ∧ ro = true ∧ ha = false ∧ so = false) ∨ (tx = true ∧ ro = true ∧ ha = false ∧ so = true) := by
    cases tx <;> cases ro <;> cases ha <;> cases so <;> simp
  rcases hw with rfl | ⟨rfl, rfl⟩ | ⟨rfl, rfl, rfl⟩ | ⟨rfl, rfl, rfl, rfl⟩ | ⟨rfl, rfl, rfl, rfl⟩
  · obtain ⟨-, -, c0, c1, c2, c3, c4⟩ := HC.out
    go_enter Tryd.func17, Tryd.ntmps17
    go_wp2_with fail
    go_ret
    exact ⟨ret_bool (by rw [HR.out]; simp), HB.out⟩
  · obtain ⟨-, -, c0, c1, c2, c3, c4⟩ := HC.out
    go_enter Tryd.func17, Tryd.ntmps17
    go_wp2_with fail
    go_ret
    exact ⟨ret_bool (by rw [HR.out]; simp), HB.out⟩
  · obtain ⟨-, -, c0, c1, c2, c3, c4⟩ := HC.out
    go_enter Tryd.func17, Tryd.ntmps17
    go_wp2_with fail
    go_ret
    exact ⟨ret_bool (by rw [HR.out]; simp), HB.out⟩
  · obtain ⟨-, -, c0, c1, c2, c3, c4⟩ := HC.out
    go_enter Tryd.func17, Tryd.ntmps17
    go_wp2_with fail
    go_ret
    exact ⟨ret_bool (by rw [HR.out]; simp), HB.out⟩
  · obtain ⟨-, -, c0, c1, c2, c3, c4⟩ := HC.out
    have CP := Lib.hid (fun W (hb : Below w.heap.size w W) => rpairs qh d.h nh ch W HV.out.lh (HV.out.rh.keep hb) HV.out.fh)
    have CR := Lib.hid (fun W q c (hS : Rs strE W q (names d.h)) => rrises q (names d.h) (names d.h).length c W rfl (rs_ss.1 hS) (by unfold names; rw [List.length_map, HV.out.lh]; exact HV.out.fh))
    go_enter Tryd.func17, Tryd.ntmps17
    go_wp2_with fail
    with_reducible refine (CP.out _ HB.out).mono ?_
    rintro e w1 ⟨v, rfl, ⟨q, c, rfl, hS, -⟩, hb1⟩
    have HB1 := Lib.hid (HB.out.trans (hb1.mono HB.out.size))
    have CR1 := Lib.hid (CR.out w1 q c hS)
    clear CR CP hb1 c0 c1 c2 c3 c4
    go_wp2_with fail
    with_reducible refine CR1.out.mono ?_
    rintro e w2 ⟨rfl, hb2⟩
    have HB2 := Lib.hid (HB1.out.trans (hb2.mono HB1.out.size))
    clear hb2 CR1
    go_wp2_with fail
    go_ret
    exact ⟨ret_bool (by rw [HR.out]; simp), HB2.out⟩

set_option maxHeartbeats 8000000 in
theorem rright_4 (k : Int) (S : ByteArray) (ql : Option Addr) (nl cl : Nat) (qh : Option Addr) (nh ch : Nat) (qz : Option Addr) (nz cz : Nat) (d : V) (w : World) (H : VIn w k S ql nl cl qh nh ch qz nz cz d) (hk : d.kind = 4) :
    Calls Tryd.prog 17 #[.agg #[.int .u8 k, .string S, .slice ql nl cl, .slice qh nh ch, .slice qz nz cz]] w fun e w' => e = .returned (.bool (rightB d)) ∧ Below w.heap.size w w' := by
  have HV := Lib.hid H
  have HR := Lib.hid (right_k4 d hk)
  obtain ⟨f1, f2, f3⟩ := empty_fact H.es
  have g1 := (nought_fact nl).trans (len_nil H.ll)
  have g2 := (nought_fact nh).trans (len_nil H.lh)
  have g3 := (nought_fact nz).trans (len_nil H.lz)
  have e1 := len_nil H.ll
  have e2 := len_nil H.lh
  have e3 := len_nil H.lz
  obtain ⟨tx, htx⟩ : ∃ tx, tx = decide (d.s = []) := ⟨_, rfl⟩
  obtain ⟨ro, hro⟩ : ∃ ro, ro = decide (d.l = []) := ⟨_, rfl⟩
  obtain ⟨ha, hha⟩ : ∃ ha, ha = decide (d.h = []) := ⟨_, rfl⟩
  obtain ⟨so, hso⟩ : ∃ so, so = decide (d.z = []) := ⟨_, rfl⟩
  rw [← htx] at f1 f2 f3 HR
  rw [← hro] at g1 e1 HR
  rw [← hha] at g2 e2 HR
  rw [← hso] at g3 e3 HR
  have hbl := H.fl
  have hbh := H.fh
  have hbz := H.fz
  clear htx hro hha hso
  have HC := Lib.hid (VCells.new w (.int .u8 k) (.string S) (.slice ql nl cl) (.slice qh nh ch) (.slice qz nz cz) w.heap.size rfl)
  have HB := Lib.hid (show Below w.heap.size w (w.alloc (.cells #[.int .u8 k, .string S, .slice ql nl cl, .slice qh nh ch, .slice qz nz cz] 26)) from (Below.refl _ _).alloc (Nat.le_refl _) _)
  obtain rfl : k = 4 := by rw [H.ek, hk]; rfl
  clear H hk
  have hw : (tx = false) ∨ (tx = true ∧ ro = true) ∨ (tx = true ∧ ro = false ∧ ha = false) ∨ (tx = true ∧ ro = false ∧ ha = true ∧ so = false) ∨ (tx = true ∧ ro = false ∧ ha = true ∧ so = true) := by
    cases tx <;> cases ro <;> cases ha <;> cases so <;> simp
  rcases hw with rfl | ⟨rfl, rfl⟩ | ⟨rfl, rfl, rfl⟩ | ⟨rfl, rfl, rfl, rfl⟩ | ⟨rfl, rfl, rfl, rfl⟩
  · obtain ⟨-, -, c0, c1, c2, c3, c4⟩ := HC.out
    go_enter Tryd.func17, Tryd.ntmps17
    go_wp2_with fail
    go_ret
    exact ⟨ret_bool (by rw [HR.out]; simp), HB.out⟩
  · obtain ⟨-, -, c0, c1, c2, c3, c4⟩ := HC.out
    go_enter Tryd.func17, Tryd.ntmps17
    go_wp2_with fail
    go_ret
    exact ⟨ret_bool (by rw [HR.out]; simp), HB.out⟩
  · obtain ⟨-, -, c0, c1, c2, c3, c4⟩ := HC.out
    go_enter Tryd.func17, Tryd.ntmps17
    go_wp2_with fail
    go_ret
    exact ⟨ret_bool (by rw [HR.out]; simp), HB.out⟩
  · obtain ⟨-, -, c0, c1, c2, c3, c4⟩ := HC.out
    go_enter Tryd.func17, Tryd.ntmps17
    go_wp2_with fail
    go_ret
    exact ⟨ret_bool (by rw [HR.out]; simp), HB.out⟩
  · obtain ⟨-, -, c0, c1, c2, c3, c4⟩ := HC.out
    have CP := Lib.hid (fun W (hb : Below w.heap.size w W) => rrises ql d.l nl cl W HV.out.ll (rs_ss.1 (HV.out.rl.keep hb)) HV.out.fl)
    go_enter Tryd.func17, Tryd.ntmps17
    go_wp2_with fail
    with_reducible refine (CP.out _ HB.out).mono ?_
    rintro e w1 ⟨rfl, hb1⟩
    have HB1 := Lib.hid (HB.out.trans (hb1.mono HB.out.size))
    clear CP hb1 c0 c1 c2 c3 c4
    go_wp2_with fail
    go_ret
    exact ⟨ret_bool (by rw [HR.out]; simp), HB1.out⟩

set_option maxHeartbeats 8000000 in
theorem rright_5 (k : Int) (S : ByteArray) (ql : Option Addr) (nl cl : Nat) (qh : Option Addr) (nh ch : Nat) (qz : Option Addr) (nz cz : Nat) (d : V) (w : World) (H : VIn w k S ql nl cl qh nh ch qz nz cz d) (hk : d.kind = 5) :
    Calls Tryd.prog 17 #[.agg #[.int .u8 k, .string S, .slice ql nl cl, .slice qh nh ch, .slice qz nz cz]] w fun e w' => e = .returned (.bool (rightB d)) ∧ Below w.heap.size w w' := by
  have HV := Lib.hid H
  have HR := Lib.hid (right_k5 d hk)
  obtain ⟨f1, f2, f3⟩ := empty_fact H.es
  have g1 := (nought_fact nl).trans (len_nil H.ll)
  have g2 := (nought_fact nh).trans (len_nil H.lh)
  have g3 := (nought_fact nz).trans (len_nil H.lz)
  have e1 := len_nil H.ll
  have e2 := len_nil H.lh
  have e3 := len_nil H.lz
  obtain ⟨tx, htx⟩ : ∃ tx, tx = decide (d.s = []) := ⟨_, rfl⟩
  obtain ⟨ro, hro⟩ : ∃ ro, ro = decide (d.l = []) := ⟨_, rfl⟩
  obtain ⟨ha, hha⟩ : ∃ ha, ha = decide (d.h = []) := ⟨_, rfl⟩
  obtain ⟨so, hso⟩ : ∃ so, so = decide (d.z = []) := ⟨_, rfl⟩
  rw [← htx] at f1 f2 f3 HR
  rw [← hro] at g1 e1 HR
  rw [← hha] at g2 e2 HR
  rw [← hso] at g3 e3 HR
  have hbl := H.fl
  have hbh := H.fh
  have hbz := H.fz
  clear htx hro hha hso
  have HC := Lib.hid (VCells.new w (.int .u8 k) (.string S) (.slice ql nl cl) (.slice qh nh ch) (.slice qz nz cz) w.heap.size rfl)
  have HB := Lib.hid (show Below w.heap.size w (w.alloc (.cells #[.int .u8 k, .string S, .slice ql nl cl, .slice qh nh ch, .slice qz nz cz] 26)) from (Below.refl _ _).alloc (Nat.le_refl _) _)
  obtain rfl : k = 5 := by rw [H.ek, hk]; rfl
  clear H hk
  have hw : (tx = false) ∨ (tx = true ∧ ro = false) ∨ (tx = true ∧ ro = true ∧ ha = false) ∨ (tx = true ∧ ro = true ∧ ha = true ∧ so = true) ∨ (tx = true ∧ ro = true ∧ ha = true ∧ so = false) := by
    cases tx <;> cases ro <;> cases ha <;> cases so <;> simp
  rcases hw with rfl | ⟨rfl, rfl⟩ | ⟨rfl, rfl, rfl⟩ | ⟨rfl, rfl, rfl, rfl⟩ | ⟨rfl, rfl, rfl, rfl⟩
  · obtain ⟨-, -, c0, c1, c2, c3, c4⟩ := HC.out
    go_enter Tryd.func17, Tryd.ntmps17
    go_wp2_with fail
    go_ret
    exact ⟨ret_bool (by rw [HR.out]; simp), HB.out⟩
  · obtain ⟨-, -, c0, c1, c2, c3, c4⟩ := HC.out
    go_enter Tryd.func17, Tryd.ntmps17
    go_wp2_with fail
    go_ret
    exact ⟨ret_bool (by rw [HR.out]; simp), HB.out⟩
  · obtain ⟨-, -, c0, c1, c2, c3, c4⟩ := HC.out
    go_enter Tryd.func17, Tryd.ntmps17
    go_wp2_with fail
    go_ret
    exact ⟨ret_bool (by rw [HR.out]; simp), HB.out⟩
  · obtain ⟨-, -, c0, c1, c2, c3, c4⟩ := HC.out
    go_enter Tryd.func17, Tryd.ntmps17
    go_wp2_with fail
    go_ret
    exact ⟨ret_bool (by rw [HR.out]; simp), HB.out⟩
  · obtain ⟨-, -, c0, c1, c2, c3, c4⟩ := HC.out
    have CP := Lib.hid (fun W (hb : Below w.heap.size w W) => rmarks qz d.z nz cz W HV.out.lz (HV.out.rz.keep hb) HV.out.fz)
    go_enter Tryd.func17, Tryd.ntmps17
    go_wp2_with fail
    with_reducible refine (CP.out _ HB.out).mono ?_
    rintro e w1 ⟨rfl, hb1⟩
    have HB1 := Lib.hid (HB.out.trans (hb1.mono HB.out.size))
    clear CP hb1 c0 c1 c2 c3 c4
    go_wp2_with fail
    go_ret
    exact ⟨ret_bool (by rw [HR.out]; simp), HB1.out⟩

set_option maxHeartbeats 8000000 in
theorem rright_6 (k : Int) (S : ByteArray) (ql : Option Addr) (nl cl : Nat) (qh : Option Addr) (nh ch : Nat) (qz : Option Addr) (nz cz : Nat) (d : V) (w : World) (H : VIn w k S ql nl cl qh nh ch qz nz cz d) (hk : 6 ≤ d.kind) :
    Calls Tryd.prog 17 #[.agg #[.int .u8 k, .string S, .slice ql nl cl, .slice qh nh ch, .slice qz nz cz]] w fun e w' => e = .returned (.bool (rightB d)) ∧ Below w.heap.size w w' := by
  have HR := Lib.hid (right_kinds d)
  obtain ⟨f1, f2, f3⟩ := empty_fact H.es
  have HC := Lib.hid (VCells.new w (.int .u8 k) (.string S) (.slice ql nl cl) (.slice qh nh ch) (.slice qz nz cz) w.heap.size rfl)
  have HB := Lib.hid (show Below w.heap.size w (w.alloc (.cells #[.int .u8 k, .string S, .slice ql nl cl, .slice qh nh ch, .slice qz nz cz] 26)) from (Below.refl _ _).alloc (Nat.le_refl _) _)
  have x0 : (k == 0) = false := by rw [beq_eq_false_iff_ne, H.ek]; omega
  have x1 : (k == 1) = false := by rw [beq_eq_false_iff_ne, H.ek]; omega
  have x2 : (k == 2) = false := by rw [beq_eq_false_iff_ne, H.ek]; omega
  have x3 : (k == 3) = false := by rw [beq_eq_false_iff_ne, H.ek]; omega
  have x4 : (k == 4) = false := by rw [beq_eq_false_iff_ne, H.ek]; omega
  have x5 : (k == 5) = false := by rw [beq_eq_false_iff_ne, H.ek]; omega
  have HF := Lib.hid (show rightB d = false by rw [HR.out, if_neg (by omega), if_neg (by omega), if_neg (by omega), if_neg (by omega), if_neg (by omega), if_neg (by omega)])
  clear H hk HR
  obtain ⟨-, -, c0, c1, c2, c3, c4⟩ := HC.out
  go_enter Tryd.func17, Tryd.ntmps17
  go_wp2_with fail
  go_ret
  exact ⟨ret_bool HF.out.symm, HB.out⟩
theorem rright (k : Int) (S : ByteArray) (ql : Option Addr) (nl cl : Nat) (qh : Option Addr) (nh ch : Nat) (qz : Option Addr) (nz cz : Nat) (d : V) (w : World) (H : VIn w k S ql nl cl qh nh ch qz nz cz d) :
    Calls Tryd.prog 17 #[.agg #[.int .u8 k, .string S, .slice ql nl cl, .slice qh nh ch, .slice qz nz cz]] w fun e w' => e = .returned (.bool (rightB d)) ∧ Below w.heap.size w w' := by
  have hk : d.kind = 0 ∨ d.kind = 1 ∨ d.kind = 2 ∨ d.kind = 3 ∨ d.kind = 4 ∨ d.kind = 5 ∨ 6 ≤ d.kind := by omega
  rcases hk with h | h | h | h | h | h | h
  · exact rright_0 k S ql nl cl qh nh ch qz nz cz d w H h
  · exact rright_1 k S ql nl cl qh nh ch qz nz cz d w H h
  · exact rright_2 k S ql nl cl qh nh ch qz nz cz d w H h
  · exact rright_3 k S ql nl cl qh nh ch qz nz cz d w H h
  · exact rright_4 k S ql nl cl qh nh ch qz nz cz d w H h
  · exact rright_5 k S ql nl cl qh nh ch qz nz cz d w H h
  · exact rright_6 k S ql nl cl qh nh ch qz nz cz d w H h

end Go.Proofs.YtodpocciimbjbaaDoor.RefV
