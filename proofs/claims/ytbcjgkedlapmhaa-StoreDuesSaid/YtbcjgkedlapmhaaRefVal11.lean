/-
  The document's own answers of layer 9: a value that is made to fit.
-/
import Derived.Test.YtbcjgkedlapmhaaRefVal9
import Derived.Test.YtbcjgkedlapmhaaRefVal10
namespace Go.Proofs.Ytbcjgkedlapmhaa.RefV
open Go.RowKit Kit StrT RowG BOrd ValT
open Go.Op (bytesLess)
set_option linter.unusedVariables false
set_option maxRecDepth 100000


theorem rfit (k : Int) (S : ByteArray) (ql : Option Addr) (nl cl : Nat) (qh : Option Addr) (nh ch : Nat) (qz : Option Addr) (nz cz : Nat) (d : V) (w : World) (H : VArg w k S ql nl cl qh nh ch qz nz cz d) (hS : S.size ≤ 140737488351232) :
    Calls Try.prog 25 #[.agg #[.int .u8 k, .string S, .slice ql nl cl, .slice qh nh ch, .slice qz nz cz]] w (ValP (fitV d) w) := by
  have hk : d.kind % 6 = 0 ∨ d.kind % 6 = 1 ∨ d.kind % 6 = 2 ∨ d.kind % 6 = 3 ∨ d.kind % 6 = 4 ∨ d.kind % 6 = 5 := by omega
  rcases hk with h | h | h | h | h | h
  · exact rfit_0 k S ql nl cl qh nh ch qz nz cz d w H hS h
  · exact rfit_1 k S ql nl cl qh nh ch qz nz cz d w H hS h
  · exact rfit_2 k S ql nl cl qh nh ch qz nz cz d w H hS h
  · exact rfit_3 k S ql nl cl qh nh ch qz nz cz d w H hS h
  · exact rfit_4 k S ql nl cl qh nh ch qz nz cz d w H hS h
  · exact rfit_5 k S ql nl cl qh nh ch qz nz cz d w H hS h

end Go.Proofs.Ytbcjgkedlapmhaa.RefV