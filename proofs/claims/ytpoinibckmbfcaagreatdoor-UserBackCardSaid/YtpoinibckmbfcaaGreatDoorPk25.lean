/-
  Packed by program.
-/
import Derived.Shelf.Spec.TrailingZeros
import Derived.Ground.Names7Prog
import Derived.Test.YtpoinibckmbfcaaGreatDoorProg
import Derived.Test.YtpoinibckmbfcaaGreatDoorPk01
namespace Go.Proofs
open Go.Shelf
def Tryz.laysSeven29_ren : Go.Shelf.Ren := ⟨fun | 29 => 133 | n => n,fun | 22 => 23 | 3 => 3 | 4 => 4 | 25 => 147 | 54 => 140 | 0 => 0 | 5 => 5 | n => n,fun | 1 => 0 | n => n⟩
theorem Tryz.laysSeven29 : Go.Proofs.Lays7.n29 Tryz.prog Tryz.laysSeven29_ren := {
  mixed := by kernel_rfl
  f29 := Tryz.func133.trans (congrArg some (by kernel_rfl))
  t0 := Tryz.underlying0
  a0 := Tryz.isAgg0
  z0 := Tryz.sizeOf0
  v0 := Tryz.zeroValue0
  i0 := by kernel_rfl
  t3 := Tryz.underlying3
  a3 := Tryz.isAgg3
  z3 := Tryz.sizeOf3
  v3 := Tryz.zeroValue3
  i3 := by kernel_rfl
  t4 := Tryz.underlying4
  a4 := Tryz.isAgg4
  z4 := Tryz.sizeOf4
  v4 := Tryz.zeroValue4
  i4 := by kernel_rfl
  t5 := Tryz.underlying5
  a5 := Tryz.isAgg5
  z5 := Tryz.sizeOf5
  v5 := Tryz.zeroValue5
  i5 := by kernel_rfl
  t22 := Tryz.underlying23
  a22 := Tryz.isAgg23
  z22 := Tryz.sizeOf23
  v22 := Tryz.zeroValue23
  i22 := by kernel_rfl
  t25 := Tryz.underlying147
  a25 := Tryz.isAgg147
  z25 := Tryz.sizeOf147
  v25 := Tryz.zeroValue147
  i25 := by kernel_rfl
  t54 := Tryz.underlying140
  a54 := Tryz.isAgg140
  z54 := Tryz.sizeOf140
  g1 := by kernel_rfl }
open Go.RowKit Go.Lib in
theorem Tryz.bits_TrailingZeros64 (x : Nat) (hx : x < 18446744073709551616) (w : World) (hT : x ≠ 0 → Go.Proofs.TabAt 0 Lib.deBruijn64tab w) :
  Calls Tryz.prog 133 #[.int .u64 x] w fun e w' => e = .returned (.int .i64 (Lib.ctz 64 x)) ∧ w' = w := Any7.bits_TrailingZeros64 Tryz.laysSeven29 x hx w hT
end Go.Proofs
