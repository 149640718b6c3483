/-
  What the document's own way of telling a number comes to.
-/
import Derived.Test.YtodpocciimbjbaaDoorRefBulk
namespace Go.Proofs.YtodpocciimbjbaaDoor.RefR
open Go.RowKit Kit BytesIn ReplyMath ReplyT NumMath
set_option linter.unusedVariables false
set_option maxRecDepth 100000

theorem rint (n : Int) (w : World) (h0 : -9223372036854775808 ≤ n) (h1 : n ≤ 9223372036854775807) :
    Calls Tryd.prog 20 #[.int .i64 n] w (Gives (int n) w) := by
  have C := Lib.hid (Ref01.text_any n.natAbs n w (Nat.le_refl _) h0 h1)
  obtain ⟨F, hF⟩ : ∃ F : ByteArray, F = ⟨(Lib.itoa n).toArray⟩ := ⟨_, rfl⟩
  have HE := Lib.hid (show (⟨#[58]⟩ ++ F ++ ⟨#[13, 10]⟩ : ByteArray).data.toList = int n by rw [hF]; simp [int])
  have hsz : F.size ≤ 20 := by rw [hF, size_bytes]; exact itoa_len n h0 h1
  rw [← hF] at C
  clear hF
  have hcv := fun W T => run_bytes W T
  go_enter Tryd.func20, Tryd.ntmps20
  go_wp2_with fail
  refine C.out.mono ?_
  rintro e w1 ⟨rfl, hb⟩
  go_wp2_with fail
  go_ret
  exact gives_conv hb _ _ (by simp only [ByteArray.size_append, lit_one, lit_two]) (by omega) _ HE.out

end Go.Proofs.YtodpocciimbjbaaDoor.RefR
