/-
  Layer 5's functions, as the laws use them.
-/
import Derived.Test.YteojijocoamohaaDoorReplyTake
import Derived.Test.YteojijocoamohaaDoorReplyJoin
namespace Go.Proofs.YteojijocoamohaaDoor.ReplyM
open Go.RowKit Kit BytesIn ReplyMath ReplyT NumMath NumL
set_option linter.unusedVariables false

theorem Gx.gt {w : World} (h : Gx w) : Gt w := ⟨h.g.tab⟩
instance {w : World} : Coe (Gx w) (Gt w) := ⟨Gx.gt⟩
theorem take_any (p : Option Addr) (l : List UInt8) (n c : Nat) (w : World) (hn : l.length = n) (hb : Bs w p l) (hc : n ≤ c) (hcm : c ≤ 9223372036854775807) (hz : n ≤ 1048576) (hnil : p = none → c = 0) (hg : Gx w) :
    Calls Tryd.prog 11 #[.slice p n c] w (TakeP l w) := take_all p l n c w hn hb hc hcm hz hnil hg

end Go.Proofs.YteojijocoamohaaDoor.ReplyM
