/-
  What the laws of layer 14 show first.
-/
import Derived.Test.YtmdkegamfjkfbaaDoorSetLaws
import Derived.Deep.QuietTactic
import Derived.Deep.DeepCutAuto
import Derived.BigQuiet
import Derived.StillTailTactics
import Derived.Deep.RegionLaw
namespace Go.Proofs.YtmdkegamfjkfbaaDoor.SetL
open Go.RowKit Kit StrT RowG BOrd ValT StoT ReplyT ReplyMath ValM BytesIn DoT Low SetT NumL NumMath SetM SaidT RefR DoV LawK SetL
set_option linter.unusedVariables false
set_option maxRecDepth 100000


theorem rises1 (s : List UInt8) : rises [s] := rises_cons.2 ⟨by simp, rises_nil⟩
set_option maxHeartbeats 4000000 in
theorem shown_any (w : World) (hg : Gt w) : Calls Tryd.prog 7 #[] w fun e w' => e = .returned (.bool true) ∧ Below w.heap.size w w' := by
  have e1 : rowD 0 [[98]] [[98], [97], [97]] = ([[97], [98]], int 1) := by decide +kernel
  have hb0 := Kit.below1 w (.cells #[.string ⟨#[98]⟩] 9)
  have hb1 := Kit.below1 (w.alloc (.cells #[.string ⟨#[98]⟩] 9)) (.cells #[.string ⟨#[115, 97, 100, 100]⟩, .string ⟨#[107]⟩, .string ⟨#[98]⟩, .string ⟨#[97]⟩, .string ⟨#[97]⟩] 9)
  have C1 := Lib.hid (show Calls Tryd.prog 11 #[.agg #[.int .u8 4, .string ⟨#[]⟩, .slice (some ⟨w.heap.size, 0, none⟩) 1 1, .slice none 0 0, .slice none 0 0], .slice (some ⟨(w.alloc (.cells #[.string ⟨#[98]⟩] 9)).heap.size, 0, none⟩) 5 5] ((w.alloc (.cells #[.string ⟨#[98]⟩] 9)).alloc (.cells #[.string ⟨#[115, 97, 100, 100]⟩, .string ⟨#[107]⟩, .string ⟨#[98]⟩, .string ⟨#[97]⟩, .string ⟨#[97]⟩] 9)) (DoN (setV [[97], [98]]) (int 1) (w.alloc (.cells #[.string ⟨#[98]⟩] 9))) from
    don_to e1 (on5 0 (by decide) ⟨#[115, 97, 100, 100]⟩ ⟨#[107]⟩ ⟨#[98]⟩ ⟨#[97]⟩ ⟨#[97]⟩ (by decide) (by decide) (by decide) (pvS (some ⟨w.heap.size, 0, none⟩) 1 1 [[98]]) [[98]] (w.alloc (.cells #[.string ⟨#[98]⟩] 9)) _ (Below.refl _ _) (pvS_in rfl (Nat.le_refl 1) (by decide) (by simp) (rs_ss.2 (LawK.ss1_new w ⟨#[98]⟩)) (by decide)) rfl (hg.keep hb0) (tame0 (rises1 _) (by decide))))
  rw [show (w.alloc (.cells #[.string ⟨#[98]⟩] 9)).heap.size = w.heap.size + 1 by simp] at C1
  have HB0 := Lib.hid hb0
  clear hg e1 hb0 hb1
  go_enter Tryd.func7, Tryd.ntmps7
  go_wp2_with fail
  with_reducible refine C1.out.mono ?_
  rintro e wa ⟨p1, vr1, rfl, hI, hd, hn, hA, hb⟩
  obtain ⟨k1, S1, ql1, nl1, cl1, qh1, nh1, ch1, qz1, nz1, cz1, d1⟩ := p1
  dsimp only [PV.agg]
  obtain ⟨qr1, cr1, rfl, hv1⟩ := ans_text hA 4 (by decide +kernel) ⟨#[58, 49, 13, 10]⟩ (by decide +kernel)
  have hbx := Kit.below1 wa (.cells #[.int .u8 k1, .string S1, .slice ql1 nl1 cl1, .slice qh1 nh1 ch1, .slice qz1 nz1 cz1] 26)
  have HB := Lib.hid (HB0.out.trans ((hb.trans (hbx.mono hb.size)).mono HB0.out.size))
  have HV1 := Lib.hid (show VB _ wa.heap.size ⟨k1, S1, ql1, nl1, cl1, qh1, nh1, ch1, qz1, nz1, cz1, d1⟩ from VB.new hI)
  have HD1 := Lib.hid (show PV.d ⟨k1, S1, ql1, nl1, cl1, qh1, nh1, ch1, qz1, nz1, cz1, d1⟩ = _ from hd)
  have HC1 := Lib.hid (fun W hW => hv1 W (hbx.trans (Below.mono hW hbx.size)))
  clear hbx hI hd hn hA hb hv1 HB0 C1
  go_upto_region 2 with fail
  generalize hgg : wa.heap.size = g1 at HV1 ⊢
  clear hgg
  generalize wa.alloc (.cells #[.int .u8 k1, .string S1, .slice ql1 nl1 cl1, .slice qh1 nh1 ch1, .slice qz1 nz1 cz1] 26) = w2 at HV1 HB HC1 ⊢
  obtain ⟨h1, h2, h3⟩ := pv_strs HV1.out.pv HD1.out
  dsimp only at h1 h2 h3
  obtain ⟨b, off, S0, rfl, -, c0, e0⟩ := LawK.ss_at h3 0 (by decide)
  obtain ⟨b', off', S1, e, -, c1, e1⟩ := LawK.ss_at h3 1 (by decide)
  injection e with e
  injection e with ea eb
  subst ea eb
  rw [Nat.add_zero] at c0
  obtain rfl : S0 = ⟨#[97]⟩ := same_bytes e0
  obtain rfl : S1 = ⟨#[98]⟩ := same_bytes e1
  have hc1 := HC1.out w2 (Below.refl _ _)
  have n1 : nl1 = 2 := h1
  subst n1
  obtain ⟨-, -, ra0, ra1, ra2, ra3, ra4⟩ := HV1.out.room
  dsimp only at ra0 ra1 ra2 ra3 ra4
  clear HC1 HD1 HV1 h1 h2 h3 e0 e1
  go_wp2_with fail
  go_ret
  exact ⟨rfl, HB.out⟩

end Go.Proofs.YtmdkegamfjkfbaaDoor.SetL
