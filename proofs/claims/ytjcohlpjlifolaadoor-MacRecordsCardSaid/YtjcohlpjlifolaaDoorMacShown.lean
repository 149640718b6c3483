/-
  What the head of layer 3's statements comes to (a record, and the document's example), and rows that are cut.
-/
import Derived.Test.YtjcohlpjlifolaaDoorMacCheck
import Derived.Test.YtjcohlpjlifolaaDoorMacEval
namespace Go.Proofs.YtjcohlpjlifolaaDoor.MacT
open Go.RowKit Kit ShaMath ShaT MacM HexMath HexW NumL NumMath
set_option linter.unusedVariables false
set_option maxRecDepth 100000

theorem one_bs {w : World} {g : Nat} (h : w.cell? ⟨g, 0, none⟩ = some (.int .u8 1)) : Bs w (some ⟨g, 0, none⟩) [1] := by
  intro _
  refine ⟨g, 0, rfl, Go.block_lt_of_cell h, fun j hj => ?_⟩
  match j, hj with
  | 0, _ => exact h
  | j + 1, hj => simp at hj
theorem itoa_1' : (Lib.itoa 1).length = 1 := by rw [itoa_1]; rfl

set_option maxHeartbeats 1000000 in
theorem shown_any (w : World) (hg : All w) : Calls Tryd.prog 10 #[] w fun e w' => e = .returned (.bool true) ∧ Below w.heap.size w w' := by
  have HG := Lib.hid hg
  clear hg
  obtain ⟨R, hR⟩ : ∃ R : ByteArray, R = ⟨(recL ((1 : Nat) : Int) [1] (derL [112, 119] [1] ((1 : Nat) : Int))).toArray⟩ := ⟨_, rfl⟩
  have hd : (derL [112, 119] [1] 1).length = 32 := derL_length _ _ _
  have hRl : R.data.toList = recL 1 [1] (derL [112, 119] [1] 1) := by rw [hR]; rfl
  have hRz : R.size = 69 := by
    have : R.data.toList.length = 69 := by rw [hRl, recL_length 1 [1] _ itoa_1' hd]; rfl
    simpa using this
  have C0 := Lib.hid (fun W => record_fit ⟨#[112, 119]⟩ none 0 0 0 W (by omega))
  have C1 := Lib.hid (show ∀ W g, W.cell? ⟨g, 0, none⟩ = some (.int .u8 1) → All W → Calls Tryd.prog 18 #[.string ⟨#[112, 119]⟩, .slice (some ⟨g, 0, none⟩) 1 1, .int .i64 1] W (fun e w' => e = .returned (.tuple #[.string R, .bool true]) ∧ Below W.heap.size W w') from fun W g h hA => by
    rw [hR]
    exact record_yes ⟨#[112, 119]⟩ (some ⟨g, 0, none⟩) [1] 1 1 1 W (by decide) (by decide) (by decide) rfl (one_bs h) (by decide) hA.t hA.n)
  have hrec : recOf R.data.toList = some (1, [1], derL [112, 119] [1] 1) := by rw [hRl]; exact recOf_recL ⟨by decide, by decide, by decide, hd⟩
  have C2 := Lib.hid (show ∀ W, All W → Calls Tryd.prog 22 #[.string R, .string ⟨#[112, 119]⟩] W (fun e w' => e = .returned (.bool true) ∧ Below W.heap.size W w') from fun W hA => by
    refine (check_yes R ⟨#[112, 119]⟩ 1 [1] _ W (by omega) (by decide) hA hrec).mono ?_
    rintro e w' ⟨he, hb⟩
    refine ⟨?_, hb⟩
    rw [he]
    exact ret_bool (decide_eq_true rfl))
  have C3 := Lib.hid (show ∀ W, All W → Calls Tryd.prog 22 #[.string R, .string ⟨#[112, 118]⟩] W (fun e w' => e = .returned (.bool false) ∧ Below W.heap.size W w') from fun W hA => by
    refine (check_yes R ⟨#[112, 118]⟩ 1 [1] _ W (by omega) (by decide) hA hrec).mono ?_
    rintro e w' ⟨he, hb⟩
    refine ⟨?_, hb⟩
    rw [he]
    exact ret_bool (decide_eq_false pw_pv))
  have hz : ((R.size : Int) == 69) = true := by rw [hRz]; rfl
  clear hR hd hRl hrec hRz
  go_enter Tryd.func10, Tryd.ntmps10
  go_wp2_with fail
  with_reducible refine (C0.out _).mono ?_
  rintro e w1 ⟨rfl, hb1⟩
  have HB1 := Lib.hid hb1
  clear hb1
  go_wp2_with fail
  refine (C1.out _ _ ?hc ?ha).mono ?_
  case hc => simp [World.cell?_alloc_mark]
  case ha => exact HG.out.keep (HB1.out.alloc HB1.out.size _)
  rintro e w2 ⟨rfl, hb2⟩
  have HB2 := Lib.hid ((HB1.out.alloc HB1.out.size _).trans (hb2.mono (by have := HB1.out.size; simp; omega)))
  clear hb2
  go_wp2_with fail
  refine (C2.out _ (HG.out.keep HB2.out)).mono ?_
  rintro e w3 ⟨rfl, hb3⟩
  have HB3 := Lib.hid (HB2.out.trans (hb3.mono HB2.out.size))
  clear hb3
  go_wp2_with fail
  refine (C3.out _ (HG.out.keep HB3.out)).mono ?_
  rintro e w4 ⟨rfl, hb4⟩
  have HB4 := Lib.hid (HB3.out.trans (hb4.mono HB3.out.size))
  clear hb4
  go_wp2_with fail
  go_ret
  exact ⟨rfl, HB4.out⟩

set_option maxHeartbeats 400000 in
theorem some_any (p : Option Addr) (l : List UInt8) (n cap : Nat) (w : World) (hn : l.length = n) (hb : Bs w p l) (hlc : n ≤ cap) (hc : cap ≤ 9223372036854775807) :
    Calls Tryd.prog 11 #[.slice p n cap] w fun e w' => e = .returned (.slice p (l.take 100).length cap) ∧ w = w' := by
  by_cases h : n ≤ 100
  · have hd : decide (100 < (n : Int)) = false := decide_eq_false (by omega)
    have hv := Lib.hid (show (l.take 100).length = n by rw [List.length_take]; omega)
    clear hn
    go_enter Tryd.func11, Tryd.ntmps11
    go_wp2
    go_ret
    exact ⟨by rw [hv.out]; rfl, rfl⟩
  · have hd : decide (100 < (n : Int)) = true := decide_eq_true (by omega)
    have hv := Lib.hid (show (l.take 100).length = 100 by rw [List.length_take]; omega)
    obtain ⟨b, off, rfl, hlt, -⟩ := hb (by omega)
    clear hn
    go_enter Tryd.func11, Tryd.ntmps11
    go_wp2
    go_ret
    exact ⟨by rw [hv.out]; rfl, rfl⟩

set_option maxHeartbeats 400000 in
theorem few_any (p : Option Addr) (l : List UInt8) (n cap : Nat) (w : World) (hn : l.length = n) (hb : Bs w p l) (hlc : n ≤ cap) (hc : cap ≤ 9223372036854775807) :
    Calls Tryd.prog 17 #[.slice p n cap] w fun e w' => e = .returned (.slice p (l.take 40).length cap) ∧ w = w' := by
  by_cases h : n ≤ 40
  · have hd : decide (40 < (n : Int)) = false := decide_eq_false (by omega)
    have hv := Lib.hid (show (l.take 40).length = n by rw [List.length_take]; omega)
    clear hn
    go_enter Tryd.func17, Tryd.ntmps17
    go_wp2
    go_ret
    exact ⟨by rw [hv.out]; rfl, rfl⟩
  · have hd : decide (40 < (n : Int)) = true := decide_eq_true (by omega)
    have hv := Lib.hid (show (l.take 40).length = 40 by rw [List.length_take]; omega)
    obtain ⟨b, off, rfl, hlt, -⟩ := hb (by omega)
    clear hn
    go_enter Tryd.func17, Tryd.ntmps17
    go_wp2
    go_ret
    exact ⟨by rw [hv.out]; rfl, rfl⟩

end Go.Proofs.YtjcohlpjlifolaaDoor.MacT
