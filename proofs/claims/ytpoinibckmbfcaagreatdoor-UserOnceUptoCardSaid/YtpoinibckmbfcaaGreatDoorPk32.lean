/-
  Packed by program.
-/
import Derived.Test.YtpoinibckmbfcaaGreatDoorPk30
namespace Go.Proofs.YtpoinibckmbfcaaGreatDoor.UserM
open Go.RowKit Kit StrT RowG RuleT UserT UserR TableMath Low ValT RefUser
open NumW (wordB)
open Go.Sort (grow)
set_option linter.unusedVariables false
set_option maxRecDepth 100000
set_option maxHeartbeats 16000000 in
theorem right_w2 (w : World) (N : ByteArray) (on np : Bool) (qh : Option Addr) (nh ch : Nat) (mm : Int) (qk : Option Addr) (nk ck : Nat) (qc : Option Addr) (nc cc : Nat) (d : UV) (b3 : Bool) (b4 : Bool) (b5 : Bool) (b6 : Bool) (b7 : Bool) (h : RC w N on np qh nh ch mm qk nk ck qc nc cc d true false b3 b4 b5 b6 b7) :
  Calls Tryz.prog 15 #[.agg #[.string N,.bool on,.bool np,.slice qh nh ch,.int .u64 mm,.slice qk nk ck,.slice qc nc cc]] w fun e w' => e = .returned (.bool false) ∧ Below w.heap.size w w' := by
 have HX := Lib.hid h.hx
 have CW := Lib.hid h.kw
 have CA := Lib.hid (fun W => all_any W)
 have CH := Lib.hid h.kh
 have CP := Lib.hid h.kp
 have CQ := Lib.hid h.kq
 have CE := Lib.hid h.ke
 have CC := Lib.hid h.kc
 have h2 := h.h2
 have h3 := h.h3
 clear h
 go_enter Tryz.func15,Tryz.ntmps15
 go_upto_region 1 with fail
 generalize w.alloc _ = W1 at HX ⊢
 have HXd : Hid (RB w ⟨N,on,np,qh,nh,ch,mm,qk,nk,ck,qc,nc,cc,d⟩ W1.drew) := Lib.hid (HX.out.keep (Below.refl _ _).drew)
 obtain ⟨u0,u1,u2,u3,u4,u5,u6⟩ := HX.out.u
 clear HX
 first | (go_region_law (first
   | (go_simp; (with_reducible refine (CW.out _).mono ?_); rintro e wq ⟨rfl,rfl⟩; dsimp only))) | fail
 all_goals
  go_wp2_with fail
  go_ret
  exact ⟨rfl,HXd.out.bl⟩
end Go.Proofs.YtpoinibckmbfcaaGreatDoor.UserM
