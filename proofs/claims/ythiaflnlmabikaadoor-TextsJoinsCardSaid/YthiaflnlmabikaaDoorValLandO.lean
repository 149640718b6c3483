/-
  The landed code of layer 9: a copy of a row.
-/
import Derived.Test.YthiaflnlmabikaaDoorValOwn
import Derived.Test.YthiaflnlmabikaaDoorCopyG
import Derived.Lib.SliceRun
namespace Go.Proofs.YthiaflnlmabikaaDoor.ValM
open Go.Lib Go.RowKit Kit StrT RowG BOrd ValT RefV
set_option linter.unusedVariables false
set_option maxRecDepth 100000

/-- What a copy of a row comes to. -/
def RowP {α : Type} (E : Enc α) (L : List α) (w : World) (e : Ending) (w' : World) : Prop := ∃ v, e = .returned v ∧ RowO E w.heap.size w' v L ∧ Below w.heap.size w w'

set_option maxHeartbeats 2000000 in
theorem own_s (q : Option Addr) (L : List (List UInt8)) (n c : Nat) (w : World) (hL : L.length = n) (h : Rs strE w q L) (hz : n ≤ 1048576) (hc : n ≤ c) (hnil : q = none → c = 0) :
    Calls Tryd.prog 29 #[.slice q n c] w (RowP strE L w) := by
  have e0 : ∀ W (a : Option Addr) (x y : Nat), (binOp .eql 22 (.slice a x y) (.slice none 0 0)).run Tryd.prog W = .ok (.bool a.isNone) W := fun W a x y => run_eql_slice_nil W 22 strE.ty a x y 0 0 strE.und
  cases q with
  | none =>
    have e1 := fun W => e0 W none 0 0
    obtain rfl := hnil rfl
    obtain rfl : n = 0 := by omega
    obtain rfl : L = [] := List.eq_nil_of_length_eq_zero hL
    clear hL h hz hc hnil
    go_enter Tryd.func29, Tryd.ntmps29
    go_wp2_with fail
    go_ret
    exact ⟨_, rfl, ⟨none, 0, rfl, by simp, by omega, fun _ => rfl, Or.inl rfl⟩, Below.refl _ _⟩
  | some ad =>
    have e1 := fun W x y => e0 W (some ad) x y
    have HR := Lib.hid h
    have HL := Lib.hid hL
    clear h hL hnil hc
    go_enter Tryd.func29, Tryd.ntmps29
    go_wp2_with (first
      | (at_make; with_reducible refine wpList_make_r strE rfl _ _ rfl n rfl rfl hz ?_; intro w1 hm1 hb1; have HM := Lib.hid hm1; have HR1 := Lib.hid (HR.out.keep hb1); have HB1 := Lib.hid hb1; clear hm1 hb1)
      | (with_reducible refine wpList_copy_r strE rfl (.tmp 9) (.tmp 10) rfl w.heap.size n c rfl HM.out _ L rfl HL.out HR1.out w.heap.size w HB1.out (Nat.le_refl _) ?_; intro w2 ho2 hb2))
    have HO := Lib.hid ho2
    clear ho2
    go_ret
    exact ⟨_, rfl, OwnR.rowO HO.out, hb2⟩

set_option maxHeartbeats 2000000 in
theorem own_p (q : Option Addr) (L : List Pr) (n c : Nat) (w : World) (hL : L.length = n) (h : Rs prE w q L) (hz : n ≤ 1048576) (hc : n ≤ c) (hnil : q = none → c = 0) :
    Calls Tryd.prog 30 #[.slice q n c] w (RowP prE L w) := by
  have e0 : ∀ W (a : Option Addr) (x y : Nat), (binOp .eql 23 (.slice a x y) (.slice none 0 0)).run Tryd.prog W = .ok (.bool a.isNone) W := fun W a x y => run_eql_slice_nil W 23 prE.ty a x y 0 0 prE.und
  cases q with
  | none =>
    have e1 := fun W => e0 W none 0 0
    obtain rfl := hnil rfl
    obtain rfl : n = 0 := by omega
    obtain rfl : L = [] := List.eq_nil_of_length_eq_zero hL
    clear hL h hz hc hnil
    go_enter Tryd.func30, Tryd.ntmps30
    go_wp2_with fail
    go_ret
    exact ⟨_, rfl, ⟨none, 0, rfl, by simp, by omega, fun _ => rfl, Or.inl rfl⟩, Below.refl _ _⟩
  | some ad =>
    have e1 := fun W x y => e0 W (some ad) x y
    have HR := Lib.hid h
    have HL := Lib.hid hL
    clear h hL hnil hc
    go_enter Tryd.func30, Tryd.ntmps30
    go_wp2_with (first
      | (at_make; with_reducible refine wpList_make_r prE rfl _ _ rfl n rfl rfl hz ?_; intro w1 hm1 hb1; have HM := Lib.hid hm1; have HR1 := Lib.hid (HR.out.keep hb1); have HB1 := Lib.hid hb1; clear hm1 hb1)
      | (with_reducible refine wpList_copy_r prE rfl (.tmp 9) (.tmp 10) rfl w.heap.size n c rfl HM.out _ L rfl HL.out HR1.out w.heap.size w HB1.out (Nat.le_refl _) ?_; intro w2 ho2 hb2))
    have HO := Lib.hid ho2
    clear ho2
    go_ret
    exact ⟨_, rfl, OwnR.rowO HO.out, hb2⟩

set_option maxHeartbeats 2000000 in
theorem own_m (q : Option Addr) (L : List Mk) (n c : Nat) (w : World) (hL : L.length = n) (h : Rs mkE w q L) (hz : n ≤ 1048576) (hc : n ≤ c) (hnil : q = none → c = 0) :
    Calls Tryd.prog 31 #[.slice q n c] w (RowP mkE L w) := by
  have e0 : ∀ W (a : Option Addr) (x y : Nat), (binOp .eql 24 (.slice a x y) (.slice none 0 0)).run Tryd.prog W = .ok (.bool a.isNone) W := fun W a x y => run_eql_slice_nil W 24 mkE.ty a x y 0 0 mkE.und
  cases q with
  | none =>
    have e1 := fun W => e0 W none 0 0
    obtain rfl := hnil rfl
    obtain rfl : n = 0 := by omega
    obtain rfl : L = [] := List.eq_nil_of_length_eq_zero hL
    clear hL h hz hc hnil
    go_enter Tryd.func31, Tryd.ntmps31
    go_wp2_with fail
    go_ret
    exact ⟨_, rfl, ⟨none, 0, rfl, by simp, by omega, fun _ => rfl, Or.inl rfl⟩, Below.refl _ _⟩
  | some ad =>
    have e1 := fun W x y => e0 W (some ad) x y
    have HR := Lib.hid h
    have HL := Lib.hid hL
    clear h hL hnil hc
    go_enter Tryd.func31, Tryd.ntmps31
    go_wp2_with (first
      | (at_make; with_reducible refine wpList_make_r mkE rfl _ _ rfl n rfl rfl hz ?_; intro w1 hm1 hb1; have HM := Lib.hid hm1; have HR1 := Lib.hid (HR.out.keep hb1); have HB1 := Lib.hid hb1; clear hm1 hb1)
      | (with_reducible refine wpList_copy_r mkE rfl (.tmp 9) (.tmp 10) rfl w.heap.size n c rfl HM.out _ L rfl HL.out HR1.out w.heap.size w HB1.out (Nat.le_refl _) ?_; intro w2 ho2 hb2))
    have HO := Lib.hid ho2
    clear ho2
    go_ret
    exact ⟨_, rfl, OwnR.rowO HO.out, hb2⟩

end Go.Proofs.YthiaflnlmabikaaDoor.ValM
