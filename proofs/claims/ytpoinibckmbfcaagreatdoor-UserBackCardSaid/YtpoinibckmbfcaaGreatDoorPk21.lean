/-
  Packed by program.
-/
import Derived.Test.YtpoinibckmbfcaaGreatDoorPk07
namespace Go.Proofs.YtpoinibckmbfcaaGreatDoor.MacT
open Go.RowKit Kit ShaMath ShaT MacM HexMath HexW NumL NumMath
open Go.Sort (grow)
set_option linter.unusedVariables false
set_option maxRecDepth 100000
theorem parse_all (s : ByteArray) (w : World) (hz : s.size ≤ 1048576) (hm : Mx w) (hg : Gd w) : Calls Tryz.prog 83 #[.string s] w (ParseB (recOf s.data.toList) w) := by
 rcases h : three s.data.toList with _ | ⟨a,b,c⟩
 · rw [recOf_no h]
   exact parse_other s h w hz hm
 · rw [recOf_three h]
   exact parse_three s a b c h w hz hm hg
theorem parse_right (s : ByteArray) (w : World) (hz : s.size ≤ 1048576) (hm : Mx w) (hg : Gd w) : Calls Tryz.prog 83 #[.string s] w (Parts3 (rightB s.data.toList) w) := by
 refine (parse_all s w hz hm hg).mono ?_
 intro e w' h
 unfold rightB
 rcases hr : recOf s.data.toList with _ | ⟨r,salt,d⟩
 · rw [hr] at h
   obtain ⟨he,hb⟩ := h
   exact ⟨_,_,_,_,_,_,_,he,hb⟩
 · rw [hr] at h
   obtain ⟨p1,c1,p2,c2,he,-,-,-,-,-,-,-,-,-,hb⟩ := h
   exact ⟨_,_,_,_,_,_,_,he,hb⟩
set_option maxHeartbeats 1000000 in
theorem right_any (s : ByteArray) (w : World) (hz : s.size ≤ 1048576) (hm : Mx w) (hg : Gd w) :
  Calls Tryz.prog 38 #[.string s] w fun e w' => e = .returned (.bool (rightB s.data.toList)) ∧ Below w.heap.size w w' := by
 have C := Lib.hid (parse_right s w hz hm hg)
 obtain ⟨R,hR⟩ : ∃ R,R = rightB s.data.toList := ⟨_,rfl⟩
 rw [← hR] at C ⊢
 clear hR hg hm
 go_enter Tryz.func38,Tryz.ntmps38
 go_wp2_with fail
 refine C.out.mono ?_
 rintro e w1 ⟨r,p1,n1,c1,p2,n2,c2,rfl,hb1⟩
 have HC := Lib.hid (parts_size r p1 p2 n1 c1 n2 c2)
 have HO := Lib.hid (parts_one r p1 p2 n1 c1 n2 c2)
 go_wp2_with (with_reducible refine wpList_store_row rfl 98 (.tmp 3) (.tmp 8) rfl w1.heap.size #[.int .i64 r,.slice p1 n1 c1,.slice p2 n2 c2] rfl rfl 98 _ (heap_alloc_last _ _) HC.out rfl HO.out ?_)
 go_ret
 exact ⟨rfl,below_setRow (hb1.alloc hb1.size _) hb1.size _⟩
end Go.Proofs.YtpoinibckmbfcaaGreatDoor.MacT
