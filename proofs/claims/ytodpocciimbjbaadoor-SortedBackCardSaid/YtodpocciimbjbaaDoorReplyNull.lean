/-
  The landed code of package reply: no text.
-/
import Derived.Test.YtodpocciimbjbaaDoorReplyLine
namespace Go.Proofs.YtodpocciimbjbaaDoor.ReplyM
open Go.RowKit Kit BytesIn ReplyMath ReplyT NumMath NumL
set_option linter.unusedVariables false
set_option maxRecDepth 100000

theorem null_any (w : World) (hg : Gt w) : Calls Tryd.prog 56 #[] w (Gives null w) := by
  have L := Lib.hid (line_is 36 36 rfl ⟨#[45, 49]⟩ w w (by decide) (Below.refl _ _) null rfl)
  clear hg
  go_enter Tryd.func56, Tryd.ntmps56
  go_wp2_with fail
  refine L.out.mono ?_
  rintro e w2 ⟨v, rfl, ho, hb2⟩
  go_wp2_with fail
  go_ret
  exact ⟨_, rfl, ho.ans, hb2⟩

end Go.Proofs.YtodpocciimbjbaaDoor.ReplyM
