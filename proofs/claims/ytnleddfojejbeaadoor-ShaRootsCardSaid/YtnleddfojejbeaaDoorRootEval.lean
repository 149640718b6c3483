/-
  What a reckoning of the primes and of the roots gives, by evaluation.
-/
import Derived.Test.YtnleddfojejbeaaDoorRootMath
namespace Go.Proofs.YtnleddfojejbeaaDoor.RootM
open Kit ShaMath

def okAt (p : Nat) : Bool := Nat.blt p 2 || (bif isPr p p then Nat.beq (primeAt (cnt p)) p && Nat.beq (cnt (p + 1)) (cnt p + 1) else Nat.beq (cnt (p + 1)) (cnt p))
theorem ok_all : (List.range 312).all okAt = true := by decide +kernel
def tabOk (i : Nat) : Bool := Nat.beq (kAt i) (rootOf (primeAt i) 3 % 4294967296) && Nat.blt (primeAt i) 65536 && (Nat.ble 8 i || Nat.beq (H0.get i) (rootOf (primeAt i) 2 % 4294967296))
theorem tab_all : (List.range 64).all tabOk = true := by decide +kernel
theorem cnt_two : cnt 2 = 0 := by decide +kernel
theorem cnt_end : cnt 312 = 64 := by decide +kernel

end Go.Proofs.YtnleddfojejbeaaDoor.RootM
