/-
  What Take asks of the world, out of what the rows lay: runes.
-/
import Derived.Test.YteojijocoamohaaDoorReplyCode
import Derived.Test.YteojijocoamohaaDoorRows
import Derived.Lib.LaidU8T
namespace Go.Proofs.YteojijocoamohaaDoor.ReplyM
open Go.RowKit Kit BytesIn ReplyMath ReplyT NumMath NumL BytesA
open Go.Shelf
set_option linter.unusedVariables false
set_option maxRecDepth 100000

def names : Ren := ⟨fun n => n, fun | 5 => 5 | 119 => 106 | 138 => 108 | 139 => 109 | n => n, fun | 3 => 2 | 4 => 3 | n => n⟩
theorem types : U8Types Tryd.prog names := ⟨Tryd.underlying5, Tryd.underlying106, Tryd.underlying108, Tryd.underlying109⟩
theorem extra : U8Extra Tryd.prog names := ⟨by kernel_rfl, by kernel_rfl, by kernel_rfl, by kernel_rfl, by kernel_rfl, by kernel_rfl, by kernel_rfl⟩
theorem first_is : Rows.laid_unicode_utf8_first = Lib.firstData := by kernel_rfl
theorem accept_is : (Rows.laid_unicode_utf8_acceptRanges : DataW Unit) = Lib.acceptData := by kernel_rfl
theorem ut_of {w : World} (h1 : Lib.VarReads Tryd.prog w "unicode/utf8.first" Rows.laid_unicode_utf8_first) (h2 : Lib.VarReads Tryd.prog w "unicode/utf8.acceptRanges" Rows.laid_unicode_utf8_acceptRanges) (hs : w.ShapedOpen Tryd.prog) : Ut w := by
  rw [first_is] at h1
  rw [accept_is] at h2
  exact ⟨utf8Tabs_of_readsT types extra h1 h2, Tryd.laysM185.s1_3 w hs⟩

end Go.Proofs.YteojijocoamohaaDoor.ReplyM
