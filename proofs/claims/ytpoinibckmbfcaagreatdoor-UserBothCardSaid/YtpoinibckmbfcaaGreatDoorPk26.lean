/-
  Packed by program.
-/
import Derived.Lib.LaidTab
import Derived.Test.YtpoinibckmbfcaaGreatDoorPk10
import Derived.Test.YtpoinibckmbfcaaGreatDoorPk23
import Derived.Test.YtpoinibckmbfcaaGreatDoorPk24
import Derived.Test.YtpoinibckmbfcaaGreatDoorPk25
namespace Go.Proofs.YtpoinibckmbfcaaGreatDoor.UserM
open Go.RowKit Kit
set_option linter.unusedVariables false
structure Tz (w : World) : Prop where
 tab : Lib.TabIs Tryz.prog w "math/bits.deBruijn64tab" .u8 (Lib.deBruijn64tab.map fun (n : Nat) => (n : Int))
theorem Tz.at_ {w : World} (h : Tz w) : Go.Proofs.TabAt 0 Lib.deBruijn64tab w := by
 intro j hj
 have h1 := Lib.TabIs.cell h.tab (show Tryz.prog.globalNamed "math/bits.deBruijn64tab" = some 0 by kernel_rfl) j (by rw [List.length_map]; exact hj)
 rw [h1]
 rw [List.getD_eq_getElem?_getD,List.getD_eq_getElem?_getD,List.getElem?_map,List.getElem?_eq_getElem hj]
 rfl
theorem Tz.keep {w w' : World} (h : Tz w) (hb : Below w.heap.size w w') : Tz w' := ⟨Kit.var_keep hb h.tab⟩
structure Gu (w : World) : Prop where
 n : NumL.Gd w
 m : MacT.Mx w
 t : ShaT.Tabs w
 z : Tz w
theorem Gu.keep {w w' : World} (h : Gu w) (hb : Below w.heap.size w w') : Gu w' := ⟨h.n.keep hb,h.m.keep hb,h.t.keep hb,h.z.keep hb⟩
theorem Gu.gw {w : World} (h : Gu w) : RuleM.Gw w := ⟨h.n,h.m⟩
theorem Gu.all {w : World} (h : Gu w) : MacT.All w := ⟨h.t,h.n,h.m⟩
end Go.Proofs.YtpoinibckmbfcaaGreatDoor.UserM
