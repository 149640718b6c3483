/-
  The document's examples of layer 7, over the contracts of the landed code.
-/
import Derived.Test.YthmkcdlchkdehaaTableCode
namespace Go.Proofs.Ythmkcdlchkdehaa.TableL
open Go.RowKit Kit TableMath Low StrT TableM
set_option linter.unusedVariables false
set_option maxRecDepth 100000

theorem get_found : findV (lowL [71, 69, 84]) = 0 ∧ findB (lowL [71, 69, 84]) = true := by decide +kernel
set_option maxHeartbeats 1000000 in
theorem shown_any (w : World) : Calls Try.prog 8 #[] w fun e w' => e = .returned (.bool true) ∧ Below w.heap.size w w' := by
  have C1 := Lib.hid (find_any ⟨#[71, 69, 84]⟩ w (by decide))
  rw [show (⟨#[71, 69, 84]⟩ : ByteArray).data.toList = [71, 69, 84] from rfl, get_found.1, get_found.2] at C1
  have C2 := Lib.hid (fun W => fits_any 1 3 W (by decide) (by decide) (by decide) (by decide))
  have C3 := Lib.hid (fun W => fits_any 0 3 W (by decide) (by decide) (by decide) (by decide))
  have C4 := Lib.hid (fun W => count_any W)
  rw [show fitsB 1 3 = true by decide +kernel] at C2
  rw [show fitsB 0 3 = false by decide +kernel] at C3
  go_enter Try.func8, Try.ntmps8
  go_wp2_with fail
  refine C1.out.mono ?_
  rintro e w1 ⟨rfl, hb1⟩
  go_wp2_with fail
  refine (C2.out _).mono ?_
  rintro e w2 ⟨rfl, hb2⟩
  go_wp2_with fail
  refine (C3.out _).mono ?_
  rintro e w3 ⟨rfl, hb3⟩
  go_wp2_with fail
  refine (C4.out _).mono ?_
  rintro e w4 ⟨rfl, hb4⟩
  have HB := Lib.hid (((hb1.trans (hb2.mono hb1.size)).trans (hb3.mono (hb1.trans (hb2.mono hb1.size)).size)).trans (hb4.mono ((hb1.trans (hb2.mono hb1.size)).trans (hb3.mono (hb1.trans (hb2.mono hb1.size)).size)).size))
  clear hb1 hb2 hb3 hb4
  go_wp2_with fail
  go_ret
  exact ⟨rfl, HB.out⟩

end Go.Proofs.Ythmkcdlchkdehaa.TableL
