/-
  What the document's own way of telling a bulk (package tipstaffref05) comes to.
-/
import Derived.Test.YtodpocciimbjbaaDoorReplyT
import Derived.Test.YtodpocciimbjbaaDoorRef01
namespace Go.Proofs.YtodpocciimbjbaaDoor.RefR
open Go.RowKit Kit BytesIn ReplyMath ReplyT NumMath
set_option linter.unusedVariables false
set_option maxRecDepth 100000

theorem lit_one (c : UInt8) : (⟨#[c]⟩ : ByteArray).size = 1 := rfl
theorem lit_two (c d : UInt8) : (⟨#[c, d]⟩ : ByteArray).size = 2 := rfl
theorem rbulk (s : ByteArray) (w : World) (hz : s.size ≤ 1048576) :
    Calls Tryd.prog 13 #[.string s] w (Gives (bulk s.data.toList) w) := by
  have C := Lib.hid (Ref01.text_any (s.size : Int).natAbs (s.size : Int) w (Nat.le_refl _) (by omega) (by omega))
  obtain ⟨F, hF⟩ : ∃ F : ByteArray, F = ⟨(Lib.itoa (s.size : Int)).toArray⟩ := ⟨_, rfl⟩
  have HE := Lib.hid (show (⟨#[36]⟩ ++ F ++ ⟨#[13, 10]⟩ ++ s ++ ⟨#[13, 10]⟩ : ByteArray).data.toList = bulk s.data.toList by rw [hF]; simp [bulk])
  have hsz : F.size ≤ 20 := by rw [hF, size_bytes]; exact itoa_len _ (by omega) (by omega)
  rw [← hF] at C
  clear hF
  have hcv := fun W T => run_bytes W T
  go_enter Tryd.func13, Tryd.ntmps13
  go_wp2_with fail
  refine C.out.mono ?_
  rintro e w1 ⟨rfl, hb⟩
  go_wp2_with fail
  go_ret
  exact gives_conv hb _ _ (by simp only [ByteArray.size_append, lit_one, lit_two]) (by omega) _ HE.out

end Go.Proofs.YtodpocciimbjbaaDoor.RefR
