/-
  TextsSums: a number made more twice is more by both together, where that fits; it is less by one below 0; a text that is no number is none for it.
-/
import Derived.Test.YthiaflnlmabikaaDoorTxtLaw
import Derived.Test.YthiaflnlmabikaaDoorRefInt
import Derived.Test.YthiaflnlmabikaaDoorRef01b
import Derived.Deep.QuietTactic
import Derived.Deep.DeepCutAuto
import Derived.BigQuiet
import Derived.StillTailTactics
namespace Go.Proofs.YthiaflnlmabikaaDoor.textsSums
open Go.RowKit Kit StrT RowG BOrd ValT StoT ReplyT ReplyMath ValM BytesIn DoT Low MapT LstT TxtT NumL NumW NumMath ReplyM TxtM SaidT RefR TxtL
set_option linter.unusedVariables false
set_option maxRecDepth 100000
-- ASKS: NumL.Gd
-- I3


theorem tmod_in (n : Int) : -1152921504606846976 < n.tmod 1152921504606846976 ∧ n.tmod 1152921504606846976 < 1152921504606846976 := ⟨Int.lt_tmod_of_pos n (by decide), Int.tmod_lt_of_pos n (by decide)⟩
set_option maxHeartbeats 16000000 in
theorem walk (n0 n1 n2 : Int) (s : ByteArray) (w : World) (a0 : -9223372036854775808 ≤ n0) (a1 : n0 ≤ 9223372036854775807) (b0 : -9223372036854775808 ≤ n1) (b1 : n1 ≤ 9223372036854775807) (c0 : -9223372036854775808 ≤ n2) (c1 : n2 ≤ 9223372036854775807) (hz : s.size ≤ 140737488351232) (hg : Gd w) :
    Calls Tryd.prog 5 #[.agg #[.int .i64 n0, .int .i64 n1, .int .i64 n2], .string s] w fun e w' => e = .returned (.bool true) ∧ Below w.heap.size w w' := by
  have HG := Lib.hid (fun W (h : Below w.heap.size w W) => hg.keep h)
  have C0 := Lib.hid (fun W (h : Below w.heap.size w W) => shown_any W (hg.keep h))
  obtain ⟨x, hx⟩ : ∃ x, x = n0.tmod 1152921504606846976 := ⟨_, rfl⟩
  obtain ⟨y, hy⟩ : ∃ y, y = n1.tmod 1152921504606846976 := ⟨_, rfl⟩
  obtain ⟨z, hzz⟩ : ∃ z, z = n2.tmod 1152921504606846976 := ⟨_, rfl⟩
  have hxb : -1152921504606846976 < x ∧ x < 1152921504606846976 := by rw [hx]; exact tmod_in n0
  have hyb : -1152921504606846976 < y ∧ y < 1152921504606846976 := by rw [hy]; exact tmod_in n1
  have hzb : -1152921504606846976 < z ∧ z < 1152921504606846976 := by rw [hzz]; exact tmod_in n2
  obtain ⟨F1, hF1⟩ : ∃ F : ByteArray, F = ⟨(Lib.itoa (x)).toArray⟩ := ⟨_, rfl⟩
  have hF1z : F1.size ≤ 20 := by rw [hF1]; exact itoa_size _ (by omega) (by omega)
  have HF1 := Lib.hid (show F1.data.toList = Lib.itoa (x) by rw [hF1])
  have CT1 := Lib.hid (fun W => (show Calls Tryd.prog 13 #[.int .i64 (x)] W (fun e w' => e = .returned (.string F1) ∧ Below W.heap.size W w') by rw [hF1]; exact Ref01.text_any (x).natAbs (x) W (Nat.le_refl _) (by omega) (by omega)))
  clear hF1
  obtain ⟨Fy, hFy⟩ : ∃ F : ByteArray, F = ⟨(Lib.itoa (y)).toArray⟩ := ⟨_, rfl⟩
  have hFyz : Fy.size ≤ 20 := by rw [hFy]; exact itoa_size _ (by omega) (by omega)
  have HFy := Lib.hid (show Fy.data.toList = Lib.itoa (y) by rw [hFy])
  have CTy := Lib.hid (fun W => (show Calls Tryd.prog 13 #[.int .i64 (y)] W (fun e w' => e = .returned (.string Fy) ∧ Below W.heap.size W w') by rw [hFy]; exact Ref01.text_any (y).natAbs (y) W (Nat.le_refl _) (by omega) (by omega)))
  clear hFy
  obtain ⟨Fz, hFz⟩ : ∃ F : ByteArray, F = ⟨(Lib.itoa (z)).toArray⟩ := ⟨_, rfl⟩
  have hFzz : Fz.size ≤ 20 := by rw [hFz]; exact itoa_size _ (by omega) (by omega)
  have HFz := Lib.hid (show Fz.data.toList = Lib.itoa (z) by rw [hFz])
  have CTz := Lib.hid (fun W => (show Calls Tryd.prog 13 #[.int .i64 (z)] W (fun e w' => e = .returned (.string Fz) ∧ Below W.heap.size W w') by rw [hFz]; exact Ref01.text_any (z).natAbs (z) W (Nat.le_refl _) (by omega) (by omega)))
  clear hFz
  obtain ⟨F2, hF2⟩ : ∃ F : ByteArray, F = ⟨(Lib.itoa (x + y)).toArray⟩ := ⟨_, rfl⟩
  have hF2z : F2.size ≤ 20 := by rw [hF2]; exact itoa_size _ (by omega) (by omega)
  have HF2 := Lib.hid (show F2.data.toList = Lib.itoa (x + y) by rw [hF2])
  have CT2 := Lib.hid (fun W => (show Calls Tryd.prog 13 #[.int .i64 (x + y)] W (fun e w' => e = .returned (.string F2) ∧ Below W.heap.size W w') by rw [hF2]; exact Ref01.text_any (x + y).natAbs (x + y) W (Nat.le_refl _) (by omega) (by omega)))
  clear hF2
  obtain ⟨F3, hF3⟩ : ∃ F : ByteArray, F = ⟨(Lib.itoa (x + y + z)).toArray⟩ := ⟨_, rfl⟩
  have hF3z : F3.size ≤ 20 := by rw [hF3]; exact itoa_size _ (by omega) (by omega)
  have HF3 := Lib.hid (show F3.data.toList = Lib.itoa (x + y + z) by rw [hF3])
  have CT3 := Lib.hid (fun W => (show Calls Tryd.prog 13 #[.int .i64 (x + y + z)] W (fun e w' => e = .returned (.string F3) ∧ Below W.heap.size W w') by rw [hF3]; exact Ref01.text_any (x + y + z).natAbs (x + y + z) W (Nat.le_refl _) (by omega) (by omega)))
  clear hF3
  obtain ⟨Wd, hWd⟩ : ∃ Wd : ByteArray, Wd = if s.size ≤ 20 then s else s.extract 0 20 := ⟨_, rfl⟩
  have hWdz := cutN hWd
  obtain ⟨ms, hms⟩ : ∃ ms : Nat, ms = min s.size 20 := ⟨_, rfl⟩
  have hminms : min (s.size : Int) 20 = (ms : Int) := by omega
  have slWd : ∀ W, (Instr.slice 9 (.string s) none (some (.int .i64 (ms : Int))) none).run Tryd.prog W = .ok (.string Wd) W := fun W => by
    have h := run_slice_string_h (P := Tryd.prog) W 9 s Tryd.underlying9 .i64 (ms : Int) (by omega) (by omega)
    rw [h, hWd]
    split
    · rw [show ((ms : Nat) : Int).toNat = s.size by omega, ByteArray.extract_zero_size]
    · rw [show ((ms : Nat) : Int).toNat = 20 by omega]
  clear hWd hms
  have CP := Lib.hid (fun W => Ref01.parse_ref Wd W (by omega))
  clear hg
  have HX := Lib.hid (And.intro hxb (And.intro hyb hzb))
  have HBx := Lib.hid (Kit.below1 w (.cells #[.int .i64 n0, .int .i64 n1, .int .i64 n2] 43))
  have ca : (w.alloc (.cells #[.int .i64 n0, .int .i64 n1, .int .i64 n2] 43)).cell? ⟨w.heap.size, 0, none⟩ = some (.int .i64 n0) := by simp [World.cell?_alloc_mark]
  have cb : (w.alloc (.cells #[.int .i64 n0, .int .i64 n1, .int .i64 n2] 43)).cell? ⟨w.heap.size, 1, none⟩ = some (.int .i64 n1) := by simp [World.cell?_alloc_mark]
  have cc : (w.alloc (.cells #[.int .i64 n0, .int .i64 n1, .int .i64 n2] 43)).cell? ⟨w.heap.size, 2, none⟩ = some (.int .i64 n2) := by simp [World.cell?_alloc_mark]
  have HLt := Lib.hid (show w.heap.size < (w.alloc (.cells #[.int .i64 n0, .int .i64 n1, .int .i64 n2] 43)).heap.size by simp)
  go_enter Tryd.func5, Tryd.ntmps5
  go_upto_region 1 with fail
  generalize w.alloc (.cells #[.int .i64 n0, .int .i64 n1, .int .i64 n2] 43) = w0 at HBx ca cb cc HLt ⊢
  go_wp2_with fail
  with_reducible refine (C0.out w0 HBx.out).mono ?_
  rintro e w1 ⟨rfl, hb1⟩
  have HB := Lib.hid (HBx.out.trans (hb1.mono HBx.out.size))
  have ca1 := (hb1.cell (p := ⟨w.heap.size, 0, none⟩) HLt.out).trans ca
  have cb1 := (hb1.cell (p := ⟨w.heap.size, 1, none⟩) HLt.out).trans cb
  have cc1 := (hb1.cell (p := ⟨w.heap.size, 2, none⟩) HLt.out).trans cc
  clear hb1 HBx ca cb cc C0
  go_upto_region 5 with fail
  rw [← hx, ← hy, ← hzz]
  clear ca1 cb1 cc1 hx hy hzz
  go_wp2_with fail
  with_reducible refine (CT1.out _).mono ?_
  rintro e w2 ⟨rfl, hb2⟩
  have HB := Lib.hid (HB.out.trans (hb2.mono HB.out.size))
  have HV1 := Lib.hid (show VB (w2.alloc (.cells #[.int .u8 1, .string F1, .slice none 0 0, .slice none 0 0, .slice none 0 0] 26)) w2.heap.size (pvT F1) from VB.new (pvT_in F1 w2))
  have HD1 := Lib.hid (show (pvT F1).d = textV (Lib.itoa x) from vt_eq F1 _ HF1.out)
  have HB := Lib.hid (HB.out.alloc HB.out.size (.cells #[.int .u8 1, .string F1, .slice none 0 0, .slice none 0 0, .slice none 0 0] 26))
  clear hb2
  go_upto_region 6 with fail
  generalize hgg : w2.heap.size = g1 at HV1 ⊢
  clear hgg
  generalize w2.alloc (.cells #[.int .u8 1, .string F1, .slice none 0 0, .slice none 0 0, .slice none 0 0] 26) = w3 at HB HV1 ⊢
  have HD_HV1 := Lib.hid (show (pvT F1).d = textV F1.data.toList from rfl)
  have HS_HV1 := Lib.hid (show (pvT F1).S.size ≤ 1048576 by show F1.size ≤ _; omega)
  clear HD1
  have CD := Lib.hid (fun (Y : World) (g : Nat) (hB : Below w.heap.size w Y) (hpv : PV.In Y (pvT F1)) (hss : StrT.Ss Y (some ⟨g, 0, none⟩) [[105, 110, 99, 114, 98, 121], [107], Fy.data.toList]) => (show Calls Tryd.prog 12 #[.agg #[.int .u8 1, .string F1, .slice none 0 0, .slice none 0 0, .slice none 0 0], .slice (some ⟨g, 0, none⟩) 3 3] Y (DoW (textV F2.data.toList) (int (x + y)) Y) from dow_to (by rw [show PV.d (pvT F1) = textV F1.data.toList from HD_HV1.out]; exact by have h := doD_by (d := textV F1.data.toList) (a := [105, 110, 99, 114, 98, 121]) (b := [107]) (m := x) (Or.inr rfl) (by rw [HF1.out]; exact num_text (by omega) (by omega)) HFy.out (by omega) (by omega) (by omega) (by omega); rw [HF2.out]; exact h) (call3y 4 ⟨#[105, 110, 99, 114, 98, 121]⟩ ⟨#[107]⟩ Fy (by decide) (by decide) ⟨by decide, by decide⟩ (by omega) (pvT F1) Y g hpv HS_HV1.out (HG.out Y hB) hss)))
  have HVl := Lib.hid HV1.out.lt
  go_cut [10] (fun s10 wx => ∃ (g k2 : _) (ql2 : Option Addr) (nl2 cl2 : Nat) (qh2 : Option Addr) (nh2 ch2 : Nat) (qz2 : Option Addr) (nz2 cz2 : Nat) (d2 : V), s10 = .pointer (some ⟨g, 0, none⟩) ∧ Hid (VB wx g ⟨k2, F2, ql2, nl2, cl2, qh2, nh2, ch2, qz2, nz2, cz2, d2⟩) ∧ Hid (d2 = textV F2.data.toList) ∧ Hid (VB wx g1 (pvT F1)) ∧ Hid (Below w.heap.size w wx))
  case first =>
    have hr0 : VB _ g1 (pvT F1) := HV1.out
    obtain ⟨-, -, r00, r01, r02, r03, r04⟩ := hr0.room
    dsimp only [pvT] at r00 r01 r02 r03 r04
    clear hr0
    have hr1 : VB _ g1 (pvT F1) := HV1.out.keep (Kit.below1 _ (.cells #[.int .u8 0, .string ⟨#[]⟩, .slice none 0 0, .slice none 0 0, .slice none 0 0] 26))
    obtain ⟨-, -, r10, r11, r12, r13, r14⟩ := hr1.room
    dsimp only [pvT] at r10 r11 r12 r13 r14
    clear hr1
    go_region_law (first
      | (go_simp; (with_reducible refine (CTy.out _).mono ?_); rintro e w4 ⟨rfl, hb4⟩; dsimp only
         have hb4' : Below w3.heap.size w3 w4 := by first | exact hb4 | exact c_dr hb4 | exact c_al hb4 | exact c_da hb4
         have HB4 := Lib.hid (HB.out.trans (hb4'.mono HB.out.size))
         have HL4 := Lib.hid hb4'.size
         have HL0 := Lib.hid HB.out.size
         have K_HV1 := Lib.hid (HV1.out.keep hb4')
         first
           | (have HZ4 := Lib.hid (show VZ w4 w3.heap.size from vz_al hb4))
           | (have HZ4 := Lib.hid (show VZ w4 w3.heap.size from vz_da hb4))
           | skip
         have hr2 : VB _ g1 (pvT F1) := K_HV1.out
         obtain ⟨-, -, r20, r21, r22, r23, r24⟩ := hr2.room
         dsimp only [pvT] at r20 r21 r22 r23 r24
         clear hr2
         have hr3 : VB _ g1 (pvT F1) := K_HV1.out.keep (Kit.below1 _ (.cells #[.int .u8 0, .string ⟨#[]⟩, .slice none 0 0, .slice none 0 0, .slice none 0 0] 26))
         obtain ⟨-, -, r30, r31, r32, r33, r34⟩ := hr3.room
         dsimp only [pvT] at r30 r31 r32 r33 r34
         clear hr3
         have hr4 : VB _ g1 (pvT F1) := K_HV1.out.keep (Kit.below1 _ (.cells #[.string ⟨#[105, 110, 99, 114, 98, 121]⟩, .string ⟨#[107]⟩, .string Fy] 9))
         obtain ⟨-, -, r40, r41, r42, r43, r44⟩ := hr4.room
         dsimp only [pvT] at r40 r41 r42 r43 r44
         clear hr4
         have hr5 : VB _ g1 (pvT F1) := (K_HV1.out.keep (Kit.below1 _ (.cells #[.int .u8 0, .string ⟨#[]⟩, .slice none 0 0, .slice none 0 0, .slice none 0 0] 26))).keep (Kit.below1 _ (.cells #[.string ⟨#[105, 110, 99, 114, 98, 121]⟩, .string ⟨#[107]⟩, .string Fy] 9))
         obtain ⟨-, -, r50, r51, r52, r53, r54⟩ := hr5.room
         dsimp only [pvT] at r50 r51 r52 r53 r54
         clear hr5
         have hr6 : VB _ g1 (pvT F1) := (K_HV1.out.keep (Kit.below1 _ (.cells #[.string ⟨#[105, 110, 99, 114, 98, 121]⟩, .string ⟨#[107]⟩, .string Fy] 9))).keep (Kit.below1 _ (.cells #[.int .u8 0, .string ⟨#[]⟩, .slice none 0 0, .slice none 0 0, .slice none 0 0] 26))
         obtain ⟨-, -, r60, r61, r62, r63, r64⟩ := hr6.room
         dsimp only [pvT] at r60 r61 r62 r63 r64
         clear hr6
         clear hb4 hb4')
      | (go_simp; (with_reducible refine (CD.out _ _ (by first | exact HB4.out.alloc HB4.out.size _ | exact (HB4.out.alloc HB4.out.size _).alloc (Below.size (HB4.out.alloc HB4.out.size _)) _) (by first | exact (K_HV1.out.keep (Kit.below1 _ _)).pv | exact ((K_HV1.out.keep (Kit.below1 _ _)).keep (Kit.below1 _ _)).pv) (by first | exact ss3_at w4 _ rfl ⟨#[105, 110, 99, 114, 98, 121]⟩ ⟨#[107]⟩ Fy | exact ss3_at _ _ (by simp) ⟨#[105, 110, 99, 114, 98, 121]⟩ ⟨#[107]⟩ Fy | exact StrT.Ss.keep (ss3_at w4 _ rfl ⟨#[105, 110, 99, 114, 98, 121]⟩ ⟨#[107]⟩ Fy) (Kit.below1 _ _))).mono ?_); rintro e w5 ⟨p9, vr, rfl, hI, hd, hs, hA, hb5⟩; dsimp only [PV.agg]
         obtain ⟨k9, S9, ql9, nl9, cl9, qh9, nh9, ch9, qz9, nz9, cz9, d9⟩ := p9
         dsimp only
         obtain rfl : F2 = S9 := (text_eq hs rfl).symm
         have hb5' : Below w4.heap.size w4 w5 := by first | exact c_al (c_al hb5) | exact c_al hb5
         have HB5 := Lib.hid (HB4.out.trans (hb5'.mono HB4.out.size))
         have HL5 := Lib.hid hb5'.size
         have HD9 := Lib.hid (show d9 = _ from hd)
         have K5_HV1 := Lib.hid (K_HV1.out.keep hb5')
         first
           | (have hzc := HZ4.out.keep hb5'
              have HGt := Lib.hid (got_five (w := w) hzc hI hd (by have := HL4.out; have := HL0.out; omega) HB5.out hA (by have := HL4.out; have := HL0.out; first | (simp; done) | (simp; omega)))
              obtain ⟨⟨z0, z1, z2, z3, z4⟩, y0, y1, y2, y3, y4⟩ := vz_facts hzc
              clear hzc)
           | (have hzc : VZ w5 w4.heap.size := vz_al (c_al hb5)
              have HGt := Lib.hid (got_five (w := w) hzc hI hd (by have := HL4.out; have := HL0.out; omega) HB5.out hA (by have := HL4.out; have := HL0.out; first | (simp; done) | (simp; omega)))
              obtain ⟨⟨z0, z1, z2, z3, z4⟩, y0, y1, y2, y3, y4⟩ := vz_facts hzc
              clear hzc)
           | (have hzc : VZ w5 (w4.alloc (.cells #[.string ⟨#[105, 110, 99, 114, 98, 121]⟩, .string ⟨#[107]⟩, .string Fy] 9)).heap.size := vz_al hb5
              rw [show (w4.alloc (.cells #[.string ⟨#[105, 110, 99, 114, 98, 121]⟩, .string ⟨#[107]⟩, .string Fy] 9)).heap.size = w4.heap.size + 1 by simp] at hzc
              have HGt := Lib.hid (got_five (w := w) hzc hI hd (by have := HL4.out; have := HL0.out; omega) HB5.out hA (by have := HL4.out; have := HL0.out; first | (simp; done) | (simp; omega)))
              obtain ⟨⟨z0, z1, z2, z3, z4⟩, y0, y1, y2, y3, y4⟩ := vz_facts hzc
              clear hzc)
           | (have HGt := Lib.hid (got_new (w := w) hI HB5.out hA))
         clear hI hd hs hA hb5 hb5'))
    all_goals
      go_wp2_with fail
      go_meet
      exact ⟨_, _, _, _, _, _, _, _, _, _, _, _, rfl, Lib.hid HGt.out.v, HD9, Lib.hid (HGt.out.k _ _ _ K5_HV1.out HD_HV1.out (by have := HVl.out; have := HL4.out; have := HL5.out; omega)), Lib.hid HGt.out.b⟩
  case rest =>
  obtain ⟨g2, k2, ql2, nl2, cl2, qh2, nh2, ch2, qz2, nz2, cz2, d2, rfl, HV2, HD2, HV1n, HBn⟩ := hcut
  rename World => wx
  clear HV1 HB CD HVl
  have HV1 := HV1n
  have HB := HBn
  clear HV1n HBn
  have HD_HV2 := Lib.hid (show PV.d ⟨k2, F2, ql2, nl2, cl2, qh2, nh2, ch2, qz2, nz2, cz2, d2⟩ = textV F2.data.toList from HD2.out)
  have HS_HV2 := Lib.hid (show F2.size ≤ 1048576 by omega)
  go_upto_region 7 with fail
  obtain ⟨N3, HN3⟩ : ∃ NI, Hid ((int (x + y + z)).length = NI) := ⟨_, Lib.hid rfl⟩
  obtain ⟨X3, HX3⟩ : ∃ XI : ByteArray, Hid (XI.data.toList = int (x + y + z)) := ⟨⟨(int (x + y + z)).toArray⟩, Lib.hid rfl⟩
  have CD := Lib.hid (fun (Y : World) (g : Nat) (hB : Below w.heap.size w Y) (hpv : PV.In Y ⟨k2, F2, ql2, nl2, cl2, qh2, nh2, ch2, qz2, nz2, cz2, d2⟩) (hss : StrT.Ss Y (some ⟨g, 0, none⟩) [[73, 78, 67, 82, 66, 89], [107], Fz.data.toList]) => (show Calls Tryd.prog 12 #[.agg #[.int .u8 k2, .string F2, .slice ql2 nl2 cl2, .slice qh2 nh2 ch2, .slice qz2 nz2 cz2], .slice (some ⟨g, 0, none⟩) 3 3] Y (DoW (textV F3.data.toList) (int (x + y + z)) Y) from dow_to (by rw [show PV.d ⟨k2, F2, ql2, nl2, cl2, qh2, nh2, ch2, qz2, nz2, cz2, d2⟩ = textV F2.data.toList from HD_HV2.out]; exact by have h := doD_by (d := textV F2.data.toList) (a := [73, 78, 67, 82, 66, 89]) (b := [107]) (m := x + y) (Or.inr rfl) (by rw [HF2.out]; exact num_text (by omega) (by omega)) HFz.out (by omega) (by omega) (by omega) (by omega); rw [HF3.out]; exact h) (call3y 4 ⟨#[73, 78, 67, 82, 66, 89]⟩ ⟨#[107]⟩ Fz (by decide) (by decide) ⟨by decide, by decide⟩ (by omega) ⟨k2, F2, ql2, nl2, cl2, qh2, nh2, ch2, qz2, nz2, cz2, d2⟩ Y g hpv HS_HV2.out (HG.out Y hB) hss)))
  have HVl := Lib.hid HV2.out.lt
  have HVl0 := Lib.hid HV1.out.lt
  go_cut [12, 13] (fun s12 s13 wx2 => ∃ (g k3 : _) (ql3 : Option Addr) (nl3 cl3 : Nat) (qh3 : Option Addr) (nh3 ch3 : Nat) (qz3 : Option Addr) (nz3 cz3 : Nat) (d3 : V) (qr : Option Addr) (cr : Nat), s12 = .pointer (some ⟨g, 0, none⟩) ∧ s13 = .slice qr N3 cr ∧ Hid (VB wx2 g ⟨k3, F3, ql3, nl3, cl3, qh3, nh3, ch3, qz3, nz3, cz3, d3⟩) ∧ Hid (VB wx2 g1 (pvT F1)) ∧ Hid (Below w.heap.size w wx2) ∧ Hid (∀ W, Below wx2.heap.size wx2 W → (convert 29 9 (.slice qr N3 cr)).run Tryd.prog W = .ok (.string X3) W))
  case first =>
    have hr0 : VB _ g2 ⟨k2, F2, ql2, nl2, cl2, qh2, nh2, ch2, qz2, nz2, cz2, d2⟩ := HV2.out
    obtain ⟨-, -, r00, r01, r02, r03, r04⟩ := hr0.room
    dsimp only at r00 r01 r02 r03 r04
    clear hr0
    have hr1 : VB _ g2 ⟨k2, F2, ql2, nl2, cl2, qh2, nh2, ch2, qz2, nz2, cz2, d2⟩ := HV2.out.keep (Kit.below1 _ (.cells #[.int .u8 0, .string ⟨#[]⟩, .slice none 0 0, .slice none 0 0, .slice none 0 0] 26))
    obtain ⟨-, -, r10, r11, r12, r13, r14⟩ := hr1.room
    dsimp only at r10 r11 r12 r13 r14
    clear hr1
    go_region_law (first
      | (go_simp; (with_reducible refine (CTz.out _).mono ?_); rintro e w4 ⟨rfl, hb4⟩; dsimp only
         have hb4' : Below wx.heap.size wx w4 := by first | exact hb4 | exact c_dr hb4 | exact c_al hb4 | exact c_da hb4
         have HB4 := Lib.hid (HB.out.trans (hb4'.mono HB.out.size))
         have HL4 := Lib.hid hb4'.size
         have HL0 := Lib.hid HB.out.size
         have K_HV2 := Lib.hid (HV2.out.keep hb4')
         have K_HV1 := Lib.hid (HV1.out.keep hb4')
         first
           | (have HZ4 := Lib.hid (show VZ w4 wx.heap.size from vz_al hb4))
           | (have HZ4 := Lib.hid (show VZ w4 wx.heap.size from vz_da hb4))
           | skip
         have hr2 : VB _ g2 ⟨k2, F2, ql2, nl2, cl2, qh2, nh2, ch2, qz2, nz2, cz2, d2⟩ := K_HV2.out
         obtain ⟨-, -, r20, r21, r22, r23, r24⟩ := hr2.room
         dsimp only at r20 r21 r22 r23 r24
         clear hr2
         have hr3 : VB _ g2 ⟨k2, F2, ql2, nl2, cl2, qh2, nh2, ch2, qz2, nz2, cz2, d2⟩ := K_HV2.out.keep (Kit.below1 _ (.cells #[.int .u8 0, .string ⟨#[]⟩, .slice none 0 0, .slice none 0 0, .slice none 0 0] 26))
         obtain ⟨-, -, r30, r31, r32, r33, r34⟩ := hr3.room
         dsimp only at r30 r31 r32 r33 r34
         clear hr3
         have hr4 : VB _ g2 ⟨k2, F2, ql2, nl2, cl2, qh2, nh2, ch2, qz2, nz2, cz2, d2⟩ := K_HV2.out.keep (Kit.below1 _ (.cells #[.string ⟨#[73, 78, 67, 82, 66, 89]⟩, .string ⟨#[107]⟩, .string Fz] 9))
         obtain ⟨-, -, r40, r41, r42, r43, r44⟩ := hr4.room
         dsimp only at r40 r41 r42 r43 r44
         clear hr4
         have hr5 : VB _ g2 ⟨k2, F2, ql2, nl2, cl2, qh2, nh2, ch2, qz2, nz2, cz2, d2⟩ := (K_HV2.out.keep (Kit.below1 _ (.cells #[.int .u8 0, .string ⟨#[]⟩, .slice none 0 0, .slice none 0 0, .slice none 0 0] 26))).keep (Kit.below1 _ (.cells #[.string ⟨#[73, 78, 67, 82, 66, 89]⟩, .string ⟨#[107]⟩, .string Fz] 9))
         obtain ⟨-, -, r50, r51, r52, r53, r54⟩ := hr5.room
         dsimp only at r50 r51 r52 r53 r54
         clear hr5
         have hr6 : VB _ g2 ⟨k2, F2, ql2, nl2, cl2, qh2, nh2, ch2, qz2, nz2, cz2, d2⟩ := (K_HV2.out.keep (Kit.below1 _ (.cells #[.string ⟨#[73, 78, 67, 82, 66, 89]⟩, .string ⟨#[107]⟩, .string Fz] 9))).keep (Kit.below1 _ (.cells #[.int .u8 0, .string ⟨#[]⟩, .slice none 0 0, .slice none 0 0, .slice none 0 0] 26))
         obtain ⟨-, -, r60, r61, r62, r63, r64⟩ := hr6.room
         dsimp only at r60 r61 r62 r63 r64
         clear hr6
         clear hb4 hb4')
      | (go_simp; (with_reducible refine (CD.out _ _ (by first | exact HB4.out.alloc HB4.out.size _ | exact (HB4.out.alloc HB4.out.size _).alloc (Below.size (HB4.out.alloc HB4.out.size _)) _) (by first | exact (K_HV2.out.keep (Kit.below1 _ _)).pv | exact ((K_HV2.out.keep (Kit.below1 _ _)).keep (Kit.below1 _ _)).pv) (by first | exact ss3_at w4 _ rfl ⟨#[73, 78, 67, 82, 66, 89]⟩ ⟨#[107]⟩ Fz | exact ss3_at _ _ (by simp) ⟨#[73, 78, 67, 82, 66, 89]⟩ ⟨#[107]⟩ Fz | exact StrT.Ss.keep (ss3_at w4 _ rfl ⟨#[73, 78, 67, 82, 66, 89]⟩ ⟨#[107]⟩ Fz) (Kit.below1 _ _))).mono ?_); rintro e w5 ⟨p9, vr, rfl, hI, hd, hs, hA, hb5⟩; dsimp only [PV.agg]
         obtain ⟨k9, S9, ql9, nl9, cl9, qh9, nh9, ch9, qz9, nz9, cz9, d9⟩ := p9
         dsimp only
         obtain rfl : F3 = S9 := (text_eq hs rfl).symm
         obtain ⟨q9, c9, rfl, -⟩ := ans_text hA N3 HN3.out X3 HX3.out
         have hb5' : Below w4.heap.size w4 w5 := by first | exact c_al (c_al hb5) | exact c_al hb5
         have HB5 := Lib.hid (HB4.out.trans (hb5'.mono HB4.out.size))
         have HL5 := Lib.hid hb5'.size
         have HD9 := Lib.hid (show d9 = _ from hd)
         have K5_HV1 := Lib.hid (K_HV1.out.keep hb5')
         have K5_HV2 := Lib.hid (K_HV2.out.keep hb5')
         first
           | (have hzc := HZ4.out.keep hb5'
              have HGt := Lib.hid (got_five (w := w) hzc hI hd (by have := HL4.out; have := HL0.out; omega) HB5.out hA (by have := HL4.out; have := HL0.out; first | (simp; done) | (simp; omega)))
              obtain ⟨⟨z0, z1, z2, z3, z4⟩, y0, y1, y2, y3, y4⟩ := vz_facts hzc
              clear hzc)
           | (have hzc : VZ w5 w4.heap.size := vz_al (c_al hb5)
              have HGt := Lib.hid (got_five (w := w) hzc hI hd (by have := HL4.out; have := HL0.out; omega) HB5.out hA (by have := HL4.out; have := HL0.out; first | (simp; done) | (simp; omega)))
              obtain ⟨⟨z0, z1, z2, z3, z4⟩, y0, y1, y2, y3, y4⟩ := vz_facts hzc
              clear hzc)
           | (have hzc : VZ w5 (w4.alloc (.cells #[.string ⟨#[73, 78, 67, 82, 66, 89]⟩, .string ⟨#[107]⟩, .string Fz] 9)).heap.size := vz_al hb5
              rw [show (w4.alloc (.cells #[.string ⟨#[73, 78, 67, 82, 66, 89]⟩, .string ⟨#[107]⟩, .string Fz] 9)).heap.size = w4.heap.size + 1 by simp] at hzc
              have HGt := Lib.hid (got_five (w := w) hzc hI hd (by have := HL4.out; have := HL0.out; omega) HB5.out hA (by have := HL4.out; have := HL0.out; first | (simp; done) | (simp; omega)))
              obtain ⟨⟨z0, z1, z2, z3, z4⟩, y0, y1, y2, y3, y4⟩ := vz_facts hzc
              clear hzc)
           | (have HGt := Lib.hid (got_new (w := w) hI HB5.out hA))
         clear hI hd hs hA hb5 hb5'))
    all_goals
      go_wp2_with fail
      go_meet
      exact ⟨_, _, _, _, _, _, _, _, _, _, _, _, _, _, rfl, rfl, Lib.hid HGt.out.v, Lib.hid (HGt.out.k _ _ _ K5_HV1.out HD_HV1.out (by have := HVl0.out; have := HL4.out; have := HL5.out; omega)), Lib.hid HGt.out.b, Lib.hid (ans_at HGt.out.a X3 HX3.out)⟩
  case rest =>
  obtain ⟨g3, k3, ql3, nl3, cl3, qh3, nh3, ch3, qz3, nz3, cz3, d3, q3, c3, rfl, rfl, HV3, HV1n, HBn, HC3⟩ := hcut
  rename World => w5
  clear HV1 HB CD HVl HVl0 HV2 HD2 HD_HV2 HS_HV2
  have HV1 := HV1n
  have HB := HBn
  clear HV1n HBn
  go_wp2_with fail
  with_reducible refine (CP.out _).mono ?_
  rintro e w6 ⟨rfl, hb6⟩
  dsimp only
  have HB := Lib.hid (HB.out.trans (hb6.mono HB.out.size))
  have HV1 := Lib.hid (HV1.out.keep hb6)
  have HV3 := Lib.hid (HV3.out.keep hb6)
  have HC3 := Lib.hid (fun W hW => HC3.out W (hb6.trans (Below.mono hW hb6.size)))
  clear hb6 CP
  cases hP : pB Wd.data.toList with
  | false =>
    have HPb := Lib.hid hP
    clear hP
    go_upto_region 10 with fail
    obtain ⟨-, -, rHV10, rHV11, rHV12, rHV13, rHV14⟩ := HV1.out.room
    dsimp only [pvT] at rHV10 rHV11 rHV12 rHV13 rHV14
    go_wp2_with fail
    clear rHV10 rHV11 rHV12 rHV13 rHV14
    have C4 := Lib.hid (fun (W : World) (g : Nat) (hgw : g = W.heap.size) (hW : Below w.heap.size w W) (hpv : PV.In W (pvT F1)) => (show Calls Tryd.prog 12 #[.agg #[.int .u8 1, .string F1, .slice none 0 0, .slice none 0 0, .slice none 0 0], .slice (some ⟨g, 0, none⟩) 3 3] (W.alloc (.cells #[.string ⟨#[105, 110, 99, 114, 98, 121]⟩, .string ⟨#[107]⟩, .string Wd] 9)) (DoW (textV F1.data.toList) (eInt) W) from by subst hgw; exact dow_to (by rw [show (pvT F1).d = textV F1.data.toList from rfl]; exact doD_odd (Or.inr rfl) HPb.out) (call3 4 ⟨#[105, 110, 99, 114, 98, 121]⟩ ⟨#[107]⟩ Wd (by decide) (by decide) ⟨by decide, by decide⟩ (by omega) (pvT F1) W hpv HS_HV1.out (HG.out W hW))))
    with_reducible refine (C4.out w6 _ rfl HB.out HV1.out.pv).mono ?_
    rintro e wa4 ⟨p4, vr4, rfl, hI, hd, hs, hA, hb⟩
    obtain ⟨k4, S4, ql4, nl4, cl4, qh4, nh4, ch4, qz4, nz4, cz4, d4⟩ := p4
    dsimp only [PV.agg]
    obtain ⟨q4, c4, rfl, hv4⟩ := ans_text hA 46 (by decide +kernel) ⟨#[45, 69, 82, 82, 32, 118, 97, 108, 117, 101, 32, 105, 115, 32, 110, 111, 116, 32, 97, 110, 32, 105, 110, 116, 101, 103, 101, 114, 32, 111, 114, 32, 111, 117, 116, 32, 111, 102, 32, 114, 97, 110, 103, 101, 13, 10]⟩ (by decide +kernel)
    obtain rfl : F1 = S4 := (text_eq hs rfl).symm
    have HI4 := Lib.hid hI
    have HD4 := Lib.hid (show d4 = _ from hd)
    have hbn := hb.trans ((Kit.below1 wa4 (.cells #[.int .u8 k4, .string F1, .slice ql4 nl4 cl4, .slice qh4 nh4 ch4, .slice qz4 nz4 cz4] 26)).mono hb.size)
    have HB := Lib.hid (HB.out.trans (hbn.mono HB.out.size))
    have HV1 := Lib.hid (HV1.out.keep hbn)
    have HV3 := Lib.hid (HV3.out.keep hbn)
    have HC3 := Lib.hid (fun W hW => HC3.out W (hbn.trans (Below.mono hW hbn.size)))
    have HV4 := Lib.hid (show VB _ wa4.heap.size ⟨k4, F1, ql4, nl4, cl4, qh4, nh4, ch4, qz4, nz4, cz4, d4⟩ from VB.new HI4.out)
    have hbx := Kit.below1 wa4 (.cells #[.int .u8 k4, .string F1, .slice ql4 nl4 cl4, .slice qh4 nh4 ch4, .slice qz4 nz4 cz4] 26)
    have HC4 := Lib.hid (fun W hW => hv4 W (hbx.trans (Below.mono hW hbx.size)))
    clear hbx
    clear hI hd hs hA hb hbn hv4
    go_upto_region 11 with fail
    generalize hgg : wa4.heap.size = g4 at HV4 ⊢
    clear hgg
    generalize wa4.alloc (.cells #[.int .u8 k4, .string F1, .slice ql4 nl4 cl4, .slice qh4 nh4 ch4, .slice qz4 nz4 cz4] 26) = w7 at HB HV4 HV1 HV3 HC3 HC4 ⊢
    obtain ⟨-, -, rHV10, rHV11, rHV12, rHV13, rHV14⟩ := HV1.out.room
    dsimp only [pvT] at rHV10 rHV11 rHV12 rHV13 rHV14
    obtain ⟨-, -, rHV40, rHV41, rHV42, rHV43, rHV44⟩ := HV4.out.room
    dsimp only at rHV40 rHV41 rHV42 rHV43 rHV44
    go_upto_region 12 with fail
    clear rHV10 rHV11 rHV12 rHV13 rHV14 rHV40 rHV41 rHV42 rHV43 rHV44
    clear C4
    have hl3 : ∀ W, Below w7.heap.size w7 W → W.cell? ⟨g3, 1, none⟩ = some (.string F3) := fun W hW => (HV3.out.keep hW).room.c1
    have hv3 := HC3.out
    have hv4 := HC4.out
    have A1 := Lib.hid (fun W (h : Below w7.heap.size w7 W) => (show Calls Tryd.prog 13 #[.int .i64 (x + y + z)] W (Plain w7 W (.string F3)) from (CT3.out W).mono (fun e w' hh => plain_of hh.1 hh.2 h)))
    have A2 := Lib.hid (fun W (h : Below w7.heap.size w7 W) => (show Calls Tryd.prog 15 #[.int .i64 (x + y + z)] W (Said w7 W N3 X3) from (rint (x + y + z) W (by omega) (by omega)).mono (fun e w' hh => said_of hh h N3 HN3.out X3 HX3.out)))
    clear hxb hyb hzb CT1 CTy CTz CT2 CT3 HV1 HV3 HV4 HI4 HD4 HPb HG
    obtain ⟨e1, e2, e3, e4⟩ := sum3_in HX.out
    refine wp_region_held_drew (S := fun W => Below w7.heap.size w7 W ∧ Below w7.heap.size w7 W) (by kernel_rfl) ?_ (fun hHeld => ?_)
    · exact ⟨(Below.refl _ _).drew, (Below.refl _ _).drew⟩
    refine wpAnyH_take (i := 0) (v := ?_) rfl (by kernel_rfl) (by kernel_rfl) (by kernel_rfl) (fun _ _ _ h => h) (Or.inl ⟨by rfl, ?_⟩) (by assumption) ?_
    rotate_left
    · intro W0 hSw; obtain ⟨hSa, hSb⟩ := hSw; go_simp; all_goals (with_reducible rfl)
    try simp only [Act.put, List.getElem_toArray, List.getElem_cons_zero, List.setIfInBounds_toArray, List.set_cons_zero, List.set_cons_succ]
    refine wpAnyH_take (i := 1) (v := ?_) rfl (by kernel_rfl) (by kernel_rfl) (by kernel_rfl) (fun _ _ _ h => h) (Or.inl ⟨by rfl, ?_⟩) (by assumption) ?_
    rotate_left
    · intro W0 hSw; obtain ⟨hSa, hSb⟩ := hSw; go_simp; all_goals (with_reducible rfl)
    try simp only [Act.put, List.getElem_toArray, List.getElem_cons_succ, List.getElem_cons_zero, List.setIfInBounds_toArray, List.set_cons_zero, List.set_cons_succ]
    refine wpAnyH_take (i := 2) (v := ?_) rfl (by kernel_rfl) (by kernel_rfl) (by kernel_rfl) (fun _ _ _ h => h) (Or.inl ⟨by rfl, ?_⟩) (by assumption) ?_
    rotate_left
    · intro W0 hSw; obtain ⟨hSa, hSb⟩ := hSw; go_simp; all_goals (with_reducible rfl)
    try simp only [Act.put, List.getElem_toArray, List.getElem_cons_succ, List.getElem_cons_zero, List.setIfInBounds_toArray, List.set_cons_zero, List.set_cons_succ]
    refine wpAnyH_take (i := 3) (v := ?_) rfl (by kernel_rfl) (by kernel_rfl) (by kernel_rfl) (fun _ _ _ h => h) (Or.inl ⟨by rfl, ?_⟩) (by assumption) ?_
    rotate_left
    · intro W0 hSw; obtain ⟨hSa, hSb⟩ := hSw; go_simp; all_goals (with_reducible rfl)
    try simp only [Act.put, List.getElem_toArray, List.getElem_cons_succ, List.getElem_cons_zero, List.setIfInBounds_toArray, List.set_cons_zero, List.set_cons_succ]
    refine wpAnyH_take (i := 4) (v := ?_) rfl (by kernel_rfl) (by kernel_rfl) (by kernel_rfl) (fun _ _ _ h => h) (Or.inl ⟨by rfl, ?_⟩) (by assumption) ?_
    rotate_left
    · intro W0 hSw; obtain ⟨hSa, hSb⟩ := hSw; go_simp; all_goals (with_reducible rfl)
    try simp only [Act.put, List.getElem_toArray, List.getElem_cons_succ, List.getElem_cons_zero, List.setIfInBounds_toArray, List.set_cons_zero, List.set_cons_succ]
    refine wpAnyH_take (i := 5) (v := ?_) rfl (by kernel_rfl) (by kernel_rfl) (by kernel_rfl) (fun _ _ _ h => h) (Or.inl ⟨by rfl, ?_⟩) (by assumption) ?_
    rotate_left
    · intro W0 hSw; obtain ⟨hSa, hSb⟩ := hSw; go_simp; all_goals (with_reducible rfl)
    try simp only [Act.put, List.getElem_toArray, List.getElem_cons_succ, List.getElem_cons_zero, List.setIfInBounds_toArray, List.set_cons_zero, List.set_cons_succ]
    refine wpAnyH_take (i := 6) (v := ?_) rfl (by kernel_rfl) (by kernel_rfl) (by kernel_rfl) (fun _ _ _ h => h) (Or.inl ⟨by rfl, ?_⟩) (by assumption) ?_
    rotate_left
    · intro W0 hSw; obtain ⟨hSa, hSb⟩ := hSw; go_simp; all_goals (with_reducible rfl)
    try simp only [Act.put, List.getElem_toArray, List.getElem_cons_succ, List.getElem_cons_zero, List.setIfInBounds_toArray, List.set_cons_zero, List.set_cons_succ]
    refine wpAnyH_take (i := 7) (v := ?_) rfl (by kernel_rfl) (by kernel_rfl) (by kernel_rfl) (fun _ _ _ h => h) (Or.inl ⟨by rfl, ?_⟩) (by assumption) ?_
    rotate_left
    · intro W0 hSw; obtain ⟨hSa, hSb⟩ := hSw; go_simp; all_goals (with_reducible rfl)
    try simp only [Act.put, List.getElem_toArray, List.getElem_cons_succ, List.getElem_cons_zero, List.setIfInBounds_toArray, List.set_cons_zero, List.set_cons_succ]
    refine wpAnyH_take (i := 8) (v := ?_) rfl (by kernel_rfl) (by kernel_rfl) (by kernel_rfl) (fun _ _ _ h => h) (Or.inl ⟨by rfl, ?_⟩) (by assumption) ?_
    rotate_left
    · intro W0 hSw; obtain ⟨hSa, hSb⟩ := hSw; go_simp; all_goals (with_reducible rfl)
    try simp only [Act.put, List.getElem_toArray, List.getElem_cons_succ, List.getElem_cons_zero, List.setIfInBounds_toArray, List.set_cons_zero, List.set_cons_succ]
    refine wpAnyH_ready (rs := [9]) (by kernel_rfl) (by simp) ?_
    refine AllReadyH.cons rfl (fun K hK => ?_) AllReadyH.nil
    go_simp
    go_wp2_with (go_at_call 13; (refine (A1.out _ hHeld.1).mono ?_); rintro e wA0 ⟨rfl, bwA0, ywA0, zwA0⟩)
    have hC := hHeld.2.trans (ywA0.mono hHeld.2.size)
    refine hK.out _ _ ?_ (fun hHeld2 => ?_)
    · exact ⟨bwA0, hC⟩
    clear hK K hHeld hHeld2
    have hHeld : Below w7.heap.size w7 wA0 ∧ Below wA0.heap.size wA0 wA0 := ⟨bwA0, zwA0⟩
    refine held_mono (S' := fun W => Below w7.heap.size w7 W ∧ Below wA0.heap.size wA0 W) (fun W hW => ⟨hW.1, hC.trans (hW.2.mono hC.size)⟩) _ _ _ _ ?_
    clear hC
    refine wpAnyH_take (i := 10) (v := ?_) rfl (by kernel_rfl) (by kernel_rfl) (by kernel_rfl) (fun _ _ _ h => h) (Or.inl ⟨by rfl, ?_⟩) (by assumption) ?_
    rotate_left
    · intro W0 hSw; obtain ⟨hSa, hSb⟩ := hSw; go_simp; all_goals (with_reducible rfl)
    try simp only [Act.put, List.getElem_toArray, List.getElem_cons_succ, List.getElem_cons_zero, List.setIfInBounds_toArray, List.set_cons_zero, List.set_cons_succ]
    refine wpAnyH_take (i := 11) (v := ?_) rfl (by kernel_rfl) (by kernel_rfl) (by kernel_rfl) (fun _ _ _ h => h) (Or.inl ⟨by rfl, ?_⟩) (by assumption) ?_
    rotate_left
    · intro W0 hSw; obtain ⟨hSa, hSb⟩ := hSw; go_simp; all_goals (with_reducible rfl)
    try simp only [Act.put, List.getElem_toArray, List.getElem_cons_succ, List.getElem_cons_zero, List.setIfInBounds_toArray, List.set_cons_zero, List.set_cons_succ]
    refine wpAnyH_take (i := 12) (v := ?_) rfl (by kernel_rfl) (by kernel_rfl) (by kernel_rfl) (fun _ _ _ h => h) (Or.inl ⟨by rfl, ?_⟩) (by assumption) ?_
    rotate_left
    · intro W0 hSw; obtain ⟨hSa, hSb⟩ := hSw; go_simp; all_goals (with_reducible rfl)
    try simp only [Act.put, List.getElem_toArray, List.getElem_cons_succ, List.getElem_cons_zero, List.setIfInBounds_toArray, List.set_cons_zero, List.set_cons_succ]
    refine wpAnyH_take (i := 13) (v := ?_) rfl (by kernel_rfl) (by kernel_rfl) (by kernel_rfl) (fun _ _ _ h => h) (Or.inl ⟨by rfl, ?_⟩) (by assumption) ?_
    rotate_left
    · intro W0 hSw; obtain ⟨hSa, hSb⟩ := hSw; go_simp; all_goals (with_reducible rfl)
    try simp only [Act.put, List.getElem_toArray, List.getElem_cons_succ, List.getElem_cons_zero, List.setIfInBounds_toArray, List.set_cons_zero, List.set_cons_succ]
    refine wpAnyH_take (i := 14) (v := ?_) rfl (by kernel_rfl) (by kernel_rfl) (by kernel_rfl) (fun _ _ _ h => h) (Or.inl ⟨by rfl, ?_⟩) (by assumption) ?_
    rotate_left
    · intro W0 hSw; obtain ⟨hSa, hSb⟩ := hSw; go_simp; all_goals (with_reducible rfl)
    try simp only [Act.put, List.getElem_toArray, List.getElem_cons_succ, List.getElem_cons_zero, List.setIfInBounds_toArray, List.set_cons_zero, List.set_cons_succ]
    refine wpAnyH_take (i := 15) (v := ?_) rfl (by kernel_rfl) (by kernel_rfl) (by kernel_rfl) (fun _ _ _ h => h) (Or.inl ⟨by rfl, ?_⟩) (by assumption) ?_
    rotate_left
    · intro W0 hSw; obtain ⟨hSa, hSb⟩ := hSw; go_simp; all_goals (with_reducible rfl)
    try simp only [Act.put, List.getElem_toArray, List.getElem_cons_succ, List.getElem_cons_zero, List.setIfInBounds_toArray, List.set_cons_zero, List.set_cons_succ]
    refine wpAnyH_take (i := 16) (v := ?_) rfl (by kernel_rfl) (by kernel_rfl) (by kernel_rfl) (fun _ _ _ h => h) (Or.inl ⟨by rfl, ?_⟩) (by assumption) ?_
    rotate_left
    · intro W0 hSw; obtain ⟨hSa, hSb⟩ := hSw; go_simp; all_goals (with_reducible rfl)
    try simp only [Act.put, List.getElem_toArray, List.getElem_cons_succ, List.getElem_cons_zero, List.setIfInBounds_toArray, List.set_cons_zero, List.set_cons_succ]
    refine wpAnyH_take (i := 17) (v := ?_) rfl (by kernel_rfl) (by kernel_rfl) (by kernel_rfl) (fun _ _ _ h => h) (Or.inl ⟨by rfl, ?_⟩) (by assumption) ?_
    rotate_left
    · intro W0 hSw; obtain ⟨hSa, hSb⟩ := hSw; go_simp; all_goals (with_reducible rfl)
    try simp only [Act.put, List.getElem_toArray, List.getElem_cons_succ, List.getElem_cons_zero, List.setIfInBounds_toArray, List.set_cons_zero, List.set_cons_succ]
    refine wpAnyH_take (i := 18) (v := ?_) rfl (by kernel_rfl) (by kernel_rfl) (by kernel_rfl) (fun _ _ _ h => h) (Or.inl ⟨by rfl, ?_⟩) (by assumption) ?_
    rotate_left
    · intro W0 hSw; obtain ⟨hSa, hSb⟩ := hSw; go_simp; all_goals (with_reducible rfl)
    try simp only [Act.put, List.getElem_toArray, List.getElem_cons_succ, List.getElem_cons_zero, List.setIfInBounds_toArray, List.set_cons_zero, List.set_cons_succ]
    refine wpAnyH_take (i := 19) (v := ?_) rfl (by kernel_rfl) (by kernel_rfl) (by kernel_rfl) (fun _ _ _ h => h) (Or.inl ⟨by rfl, ?_⟩) (by assumption) ?_
    rotate_left
    · intro W0 hSw; obtain ⟨hSa, hSb⟩ := hSw; go_simp; all_goals (with_reducible rfl)
    try simp only [Act.put, List.getElem_toArray, List.getElem_cons_succ, List.getElem_cons_zero, List.setIfInBounds_toArray, List.set_cons_zero, List.set_cons_succ]
    refine wpAnyH_ready (rs := [20]) (by kernel_rfl) (by simp) ?_
    refine AllReadyH.cons rfl (fun K hK => ?_) AllReadyH.nil
    go_simp
    go_wp2_with (go_at_call 15; (refine (A2.out _ hHeld.1).mono ?_); rintro e wA1 ⟨pwA1, cwA1, rfl, vwA1, bwA1, ywA1, zwA1⟩)
    have hC := hHeld.2.trans (ywA1.mono hHeld.2.size)
    refine hK.out _ _ ?_ (fun hHeld2 => ?_)
    · exact ⟨bwA1, hC⟩
    clear hK K hHeld hHeld2
    have hHeld : Below w7.heap.size w7 wA1 ∧ Below wA1.heap.size wA1 wA1 := ⟨bwA1, zwA1⟩
    refine held_mono (S' := fun W => Below w7.heap.size w7 W ∧ Below wA1.heap.size wA1 W) (fun W hW => ⟨hW.1, hC.trans (hW.2.mono hC.size)⟩) _ _ _ _ ?_
    clear hC
    refine wpAnyH_take (i := 21) (v := ?_) rfl (by kernel_rfl) (by kernel_rfl) (by kernel_rfl) (fun _ _ _ h => h) (Or.inl ⟨by rfl, ?_⟩) (by assumption) ?_
    rotate_left
    · intro W0 hSw; obtain ⟨hSa, hSb⟩ := hSw; go_simp; all_goals (with_reducible rfl)
    try simp only [Act.put, List.getElem_toArray, List.getElem_cons_succ, List.getElem_cons_zero, List.setIfInBounds_toArray, List.set_cons_zero, List.set_cons_succ]
    refine wpAnyH_take (i := 22) (v := ?_) rfl (by kernel_rfl) (by kernel_rfl) (by kernel_rfl) (fun _ _ _ h => h) (Or.inl ⟨by rfl, ?_⟩) (by assumption) ?_
    rotate_left
    · intro W0 hSw; obtain ⟨hSa, hSb⟩ := hSw; go_simp; all_goals (with_reducible rfl)
    try simp only [Act.put, List.getElem_toArray, List.getElem_cons_succ, List.getElem_cons_zero, List.setIfInBounds_toArray, List.set_cons_zero, List.set_cons_succ]
    refine wpAnyH_take (i := 23) (v := ?_) rfl (by kernel_rfl) (by kernel_rfl) (by kernel_rfl) (fun _ _ _ h => h) (Or.inl ⟨by rfl, ?_⟩) (by assumption) ?_
    rotate_left
    · intro W0 hSw; obtain ⟨hSa, hSb⟩ := hSw; go_simp; all_goals (with_reducible rfl)
    try simp only [Act.put, List.getElem_toArray, List.getElem_cons_succ, List.getElem_cons_zero, List.setIfInBounds_toArray, List.set_cons_zero, List.set_cons_succ]
    refine wpAnyH_take (i := 24) (v := ?_) rfl (by kernel_rfl) (by kernel_rfl) (by kernel_rfl) (fun _ _ _ h => h) (Or.inl ⟨by rfl, ?_⟩) (by assumption) ?_
    rotate_left
    · intro W0 hSw; obtain ⟨hSa, hSb⟩ := hSw; go_simp; all_goals (with_reducible rfl)
    try simp only [Act.put, List.getElem_toArray, List.getElem_cons_succ, List.getElem_cons_zero, List.setIfInBounds_toArray, List.set_cons_zero, List.set_cons_succ]
    refine wpAnyH_take (i := 25) (v := ?_) rfl (by kernel_rfl) (by kernel_rfl) (by kernel_rfl) (fun _ _ _ h => h) (Or.inl ⟨by rfl, ?_⟩) (by assumption) ?_
    rotate_left
    · intro W0 hSw; obtain ⟨hSa, hSb⟩ := hSw; go_simp; all_goals (with_reducible rfl)
    try simp only [Act.put, List.getElem_toArray, List.getElem_cons_succ, List.getElem_cons_zero, List.setIfInBounds_toArray, List.set_cons_zero, List.set_cons_succ]
    refine wpAnyH_take (i := 26) (v := ?_) rfl (by kernel_rfl) (by kernel_rfl) (by kernel_rfl) (fun _ _ _ h => h) (Or.inl ⟨by rfl, ?_⟩) (by assumption) ?_
    rotate_left
    · intro W0 hSw; obtain ⟨hSa, hSb⟩ := hSw; go_simp; all_goals (with_reducible rfl)
    try simp only [Act.put, List.getElem_toArray, List.getElem_cons_succ, List.getElem_cons_zero, List.setIfInBounds_toArray, List.set_cons_zero, List.set_cons_succ]
    refine wpAnyH_take (i := 27) (v := ?_) rfl (by kernel_rfl) (by kernel_rfl) (by kernel_rfl) (fun _ _ _ h => h) (Or.inl ⟨by rfl, ?_⟩) (by assumption) ?_
    rotate_left
    · intro W0 hSw; obtain ⟨hSa, hSb⟩ := hSw; go_simp; all_goals (with_reducible rfl)
    try simp only [Act.put, List.getElem_toArray, List.getElem_cons_succ, List.getElem_cons_zero, List.setIfInBounds_toArray, List.set_cons_zero, List.set_cons_succ]
    refine wpAnyH_take (i := 28) (v := ?_) rfl (by kernel_rfl) (by kernel_rfl) (by kernel_rfl) (fun _ _ _ h => h) (Or.inl ⟨by rfl, ?_⟩) (by assumption) ?_
    rotate_left
    · intro W0 hSw; obtain ⟨hSa, hSb⟩ := hSw; go_simp; all_goals (with_reducible rfl)
    try simp only [Act.put, List.getElem_toArray, List.getElem_cons_succ, List.getElem_cons_zero, List.setIfInBounds_toArray, List.set_cons_zero, List.set_cons_succ]
    refine wpAnyH_take (i := 29) (v := ?_) rfl (by kernel_rfl) (by kernel_rfl) (by kernel_rfl) (fun _ _ _ h => h) (Or.inl ⟨by rfl, ?_⟩) (by assumption) ?_
    rotate_left
    · intro W0 hSw; obtain ⟨hSa, hSb⟩ := hSw; go_simp; all_goals (with_reducible rfl)
    try simp only [Act.put, List.getElem_toArray, List.getElem_cons_succ, List.getElem_cons_zero, List.setIfInBounds_toArray, List.set_cons_zero, List.set_cons_succ]
    refine wpAnyH_take (i := 30) (v := ?_) rfl (by kernel_rfl) (by kernel_rfl) (by kernel_rfl) (fun _ _ _ h => h) (Or.inl ⟨by rfl, ?_⟩) (by assumption) ?_
    rotate_left
    · intro W0 hSw; obtain ⟨hSa, hSb⟩ := hSw; go_simp; all_goals (with_reducible rfl)
    try simp only [Act.put, List.getElem_toArray, List.getElem_cons_succ, List.getElem_cons_zero, List.setIfInBounds_toArray, List.set_cons_zero, List.set_cons_succ]
    refine wpAnyH_take (i := 31) (v := ?_) rfl (by kernel_rfl) (by kernel_rfl) (by kernel_rfl) (fun _ _ _ h => h) (Or.inl ⟨by rfl, ?_⟩) (by assumption) ?_
    rotate_left
    · intro W0 hSw; obtain ⟨hSa, hSb⟩ := hSw; go_simp; all_goals (with_reducible rfl)
    try simp only [Act.put, List.getElem_toArray, List.getElem_cons_succ, List.getElem_cons_zero, List.setIfInBounds_toArray, List.set_cons_zero, List.set_cons_succ]
    refine wpAnyH_take (i := 32) (v := ?_) rfl (by kernel_rfl) (by kernel_rfl) (by kernel_rfl) (fun _ _ _ h => h) (Or.inl ⟨by rfl, ?_⟩) (by assumption) ?_
    rotate_left
    · intro W0 hSw; obtain ⟨hSa, hSb⟩ := hSw; go_simp; all_goals (with_reducible rfl)
    try simp only [Act.put, List.getElem_toArray, List.getElem_cons_succ, List.getElem_cons_zero, List.setIfInBounds_toArray, List.set_cons_zero, List.set_cons_succ]
    refine wpAnyH_take (i := 33) (v := ?_) rfl (by kernel_rfl) (by kernel_rfl) (by kernel_rfl) (fun _ _ _ h => h) (Or.inl ⟨by rfl, ?_⟩) (by assumption) ?_
    rotate_left
    · intro W0 hSw; obtain ⟨hSa, hSb⟩ := hSw; go_simp; all_goals (with_reducible rfl)
    try simp only [Act.put, List.getElem_toArray, List.getElem_cons_succ, List.getElem_cons_zero, List.setIfInBounds_toArray, List.set_cons_zero, List.set_cons_succ]
    refine wpAnyH_take (i := 34) (v := ?_) rfl (by kernel_rfl) (by kernel_rfl) (by kernel_rfl) (fun _ _ _ h => h) (Or.inl ⟨by rfl, ?_⟩) (by assumption) ?_
    rotate_left
    · intro W0 hSw; obtain ⟨hSa, hSb⟩ := hSw; go_simp; all_goals (with_reducible rfl)
    try simp only [Act.put, List.getElem_toArray, List.getElem_cons_succ, List.getElem_cons_zero, List.setIfInBounds_toArray, List.set_cons_zero, List.set_cons_succ]
    refine wpAnyH_take (i := 35) (v := ?_) rfl (by kernel_rfl) (by kernel_rfl) (by kernel_rfl) (fun _ _ _ h => h) (Or.inl ⟨by rfl, ?_⟩) (by assumption) ?_
    rotate_left
    · intro W0 hSw; obtain ⟨hSa, hSb⟩ := hSw; go_simp; all_goals (with_reducible rfl)
    try simp only [Act.put, List.getElem_toArray, List.getElem_cons_succ, List.getElem_cons_zero, List.setIfInBounds_toArray, List.set_cons_zero, List.set_cons_succ]
    refine wpAnyH_done (by kernel_rfl) ?_ _
    go_wp2_with fail
    go_ret
    exact ⟨rfl, HB.out.trans (hHeld.1.mono HB.out.size)⟩
  | true =>
    have HPb := Lib.hid hP
    clear hP
    go_upto_region 10 with fail
    obtain ⟨-, -, rHV10, rHV11, rHV12, rHV13, rHV14⟩ := HV1.out.room
    dsimp only [pvT] at rHV10 rHV11 rHV12 rHV13 rHV14
    go_wp2_with fail
    clear rHV10 rHV11 rHV12 rHV13 rHV14
    have C4 := Lib.hid (fun (W : World) (g : Nat) (hgw : g = W.heap.size) (hW : Below w.heap.size w W) (hpv : PV.In W (pvT F1)) => (show Calls Tryd.prog 12 #[.agg #[.int .u8 1, .string F1, .slice none 0 0, .slice none 0 0, .slice none 0 0], .slice (some ⟨g, 0, none⟩) 3 3] (W.alloc (.cells #[.string ⟨#[105, 110, 99, 114, 98, 121]⟩, .string ⟨#[107]⟩, .string Wd] 9)) (DoW ((doD 4 (pvT F1).d [[105, 110, 99, 114, 98, 121], [107], Wd.data.toList]).1) ((doD 4 (pvT F1).d [[105, 110, 99, 114, 98, 121], [107], Wd.data.toList]).2) W) from by subst hgw; exact dow_to (rfl) (call3 4 ⟨#[105, 110, 99, 114, 98, 121]⟩ ⟨#[107]⟩ Wd (by decide) (by decide) ⟨by decide, by decide⟩ (by omega) (pvT F1) W hpv HS_HV1.out (HG.out W hW))))
    with_reducible refine (C4.out w6 _ rfl HB.out HV1.out.pv).mono ?_
    rintro e wa4 ⟨p4, vr4, rfl, hI, hd, hs, hA, hb⟩
    obtain ⟨k4, S4, ql4, nl4, cl4, qh4, nh4, ch4, qz4, nz4, cz4, d4⟩ := p4
    dsimp only [PV.agg]
    have HI4 := Lib.hid hI
    have HD4 := Lib.hid (show d4 = _ from hd)
    have hbn := hb.trans ((Kit.below1 wa4 (.cells #[.int .u8 k4, .string S4, .slice ql4 nl4 cl4, .slice qh4 nh4 ch4, .slice qz4 nz4 cz4] 26)).mono hb.size)
    have HB := Lib.hid (HB.out.trans (hbn.mono HB.out.size))
    have HV1 := Lib.hid (HV1.out.keep hbn)
    have HV3 := Lib.hid (HV3.out.keep hbn)
    have HC3 := Lib.hid (fun W hW => HC3.out W (hbn.trans (Below.mono hW hbn.size)))
    have HV4 := Lib.hid (show VB _ wa4.heap.size ⟨k4, S4, ql4, nl4, cl4, qh4, nh4, ch4, qz4, nz4, cz4, d4⟩ from VB.new HI4.out)
    clear hI hd hs hA hb hbn
    go_upto_region 11 with fail
    generalize hgg : wa4.heap.size = g4 at HV4 ⊢
    clear hgg
    generalize wa4.alloc (.cells #[.int .u8 k4, .string S4, .slice ql4 nl4 cl4, .slice qh4 nh4 ch4, .slice qz4 nz4 cz4] 26) = w7 at HB HV4 HV1 HV3 HC3 ⊢
    obtain ⟨-, -, rHV10, rHV11, rHV12, rHV13, rHV14⟩ := HV1.out.room
    dsimp only [pvT] at rHV10 rHV11 rHV12 rHV13 rHV14
    obtain ⟨-, -, rHV40, rHV41, rHV42, rHV43, rHV44⟩ := HV4.out.room
    dsimp only at rHV40 rHV41 rHV42 rHV43 rHV44
    go_upto_region 12 with fail
    clear rHV10 rHV11 rHV12 rHV13 rHV14 rHV40 rHV41 rHV42 rHV43 rHV44
    clear C4
    have hl3 : ∀ W, Below w7.heap.size w7 W → W.cell? ⟨g3, 1, none⟩ = some (.string F3) := fun W hW => (HV3.out.keep hW).room.c1
    have hv3 := HC3.out
    have A1 := Lib.hid (fun W (h : Below w7.heap.size w7 W) => (show Calls Tryd.prog 13 #[.int .i64 (x + y + z)] W (Plain w7 W (.string F3)) from (CT3.out W).mono (fun e w' hh => plain_of hh.1 hh.2 h)))
    have A2 := Lib.hid (fun W (h : Below w7.heap.size w7 W) => (show Calls Tryd.prog 15 #[.int .i64 (x + y + z)] W (Said w7 W N3 X3) from (rint (x + y + z) W (by omega) (by omega)).mono (fun e w' hh => said_of hh h N3 HN3.out X3 HX3.out)))
    clear hxb hyb hzb CT1 CTy CTz CT2 CT3 HV1 HV3 HV4 HI4 HD4 HPb HG
    obtain ⟨e1, e2, e3, e4⟩ := sum3_in HX.out
    refine wp_region_held_drew (S := fun W => Below w7.heap.size w7 W ∧ Below w7.heap.size w7 W) (by kernel_rfl) ?_ (fun hHeld => ?_)
    · exact ⟨(Below.refl _ _).drew, (Below.refl _ _).drew⟩
    refine wpAnyH_take (i := 0) (v := ?_) rfl (by kernel_rfl) (by kernel_rfl) (by kernel_rfl) (fun _ _ _ h => h) (Or.inl ⟨by rfl, ?_⟩) (by assumption) ?_
    rotate_left
    · intro W0 hSw; obtain ⟨hSa, hSb⟩ := hSw; go_simp; all_goals (with_reducible rfl)
    try simp only [Act.put, List.getElem_toArray, List.getElem_cons_zero, List.setIfInBounds_toArray, List.set_cons_zero, List.set_cons_succ]
    refine wpAnyH_take (i := 1) (v := ?_) rfl (by kernel_rfl) (by kernel_rfl) (by kernel_rfl) (fun _ _ _ h => h) (Or.inl ⟨by rfl, ?_⟩) (by assumption) ?_
    rotate_left
    · intro W0 hSw; obtain ⟨hSa, hSb⟩ := hSw; go_simp; all_goals (with_reducible rfl)
    try simp only [Act.put, List.getElem_toArray, List.getElem_cons_succ, List.getElem_cons_zero, List.setIfInBounds_toArray, List.set_cons_zero, List.set_cons_succ]
    refine wpAnyH_take (i := 2) (v := ?_) rfl (by kernel_rfl) (by kernel_rfl) (by kernel_rfl) (fun _ _ _ h => h) (Or.inl ⟨by rfl, ?_⟩) (by assumption) ?_
    rotate_left
    · intro W0 hSw; obtain ⟨hSa, hSb⟩ := hSw; go_simp; all_goals (with_reducible rfl)
    try simp only [Act.put, List.getElem_toArray, List.getElem_cons_succ, List.getElem_cons_zero, List.setIfInBounds_toArray, List.set_cons_zero, List.set_cons_succ]
    refine wpAnyH_take (i := 3) (v := ?_) rfl (by kernel_rfl) (by kernel_rfl) (by kernel_rfl) (fun _ _ _ h => h) (Or.inl ⟨by rfl, ?_⟩) (by assumption) ?_
    rotate_left
    · intro W0 hSw; obtain ⟨hSa, hSb⟩ := hSw; go_simp; all_goals (with_reducible rfl)
    try simp only [Act.put, List.getElem_toArray, List.getElem_cons_succ, List.getElem_cons_zero, List.setIfInBounds_toArray, List.set_cons_zero, List.set_cons_succ]
    refine wpAnyH_take (i := 4) (v := ?_) rfl (by kernel_rfl) (by kernel_rfl) (by kernel_rfl) (fun _ _ _ h => h) (Or.inl ⟨by rfl, ?_⟩) (by assumption) ?_
    rotate_left
    · intro W0 hSw; obtain ⟨hSa, hSb⟩ := hSw; go_simp; all_goals (with_reducible rfl)
    try simp only [Act.put, List.getElem_toArray, List.getElem_cons_succ, List.getElem_cons_zero, List.setIfInBounds_toArray, List.set_cons_zero, List.set_cons_succ]
    refine wpAnyH_take (i := 5) (v := ?_) rfl (by kernel_rfl) (by kernel_rfl) (by kernel_rfl) (fun _ _ _ h => h) (Or.inl ⟨by rfl, ?_⟩) (by assumption) ?_
    rotate_left
    · intro W0 hSw; obtain ⟨hSa, hSb⟩ := hSw; go_simp; all_goals (with_reducible rfl)
    try simp only [Act.put, List.getElem_toArray, List.getElem_cons_succ, List.getElem_cons_zero, List.setIfInBounds_toArray, List.set_cons_zero, List.set_cons_succ]
    refine wpAnyH_take (i := 6) (v := ?_) rfl (by kernel_rfl) (by kernel_rfl) (by kernel_rfl) (fun _ _ _ h => h) (Or.inl ⟨by rfl, ?_⟩) (by assumption) ?_
    rotate_left
    · intro W0 hSw; obtain ⟨hSa, hSb⟩ := hSw; go_simp; all_goals (with_reducible rfl)
    try simp only [Act.put, List.getElem_toArray, List.getElem_cons_succ, List.getElem_cons_zero, List.setIfInBounds_toArray, List.set_cons_zero, List.set_cons_succ]
    refine wpAnyH_take (i := 7) (v := ?_) rfl (by kernel_rfl) (by kernel_rfl) (by kernel_rfl) (fun _ _ _ h => h) (Or.inl ⟨by rfl, ?_⟩) (by assumption) ?_
    rotate_left
    · intro W0 hSw; obtain ⟨hSa, hSb⟩ := hSw; go_simp; all_goals (with_reducible rfl)
    try simp only [Act.put, List.getElem_toArray, List.getElem_cons_succ, List.getElem_cons_zero, List.setIfInBounds_toArray, List.set_cons_zero, List.set_cons_succ]
    refine wpAnyH_take (i := 8) (v := ?_) rfl (by kernel_rfl) (by kernel_rfl) (by kernel_rfl) (fun _ _ _ h => h) (Or.inl ⟨by rfl, ?_⟩) (by assumption) ?_
    rotate_left
    · intro W0 hSw; obtain ⟨hSa, hSb⟩ := hSw; go_simp; all_goals (with_reducible rfl)
    try simp only [Act.put, List.getElem_toArray, List.getElem_cons_succ, List.getElem_cons_zero, List.setIfInBounds_toArray, List.set_cons_zero, List.set_cons_succ]
    refine wpAnyH_ready (rs := [9]) (by kernel_rfl) (by simp) ?_
    refine AllReadyH.cons rfl (fun K hK => ?_) AllReadyH.nil
    go_simp
    go_wp2_with (go_at_call 13; (refine (A1.out _ hHeld.1).mono ?_); rintro e wA0 ⟨rfl, bwA0, ywA0, zwA0⟩)
    have hC := hHeld.2.trans (ywA0.mono hHeld.2.size)
    refine hK.out _ _ ?_ (fun hHeld2 => ?_)
    · exact ⟨bwA0, hC⟩
    clear hK K hHeld hHeld2
    have hHeld : Below w7.heap.size w7 wA0 ∧ Below wA0.heap.size wA0 wA0 := ⟨bwA0, zwA0⟩
    refine held_mono (S' := fun W => Below w7.heap.size w7 W ∧ Below wA0.heap.size wA0 W) (fun W hW => ⟨hW.1, hC.trans (hW.2.mono hC.size)⟩) _ _ _ _ ?_
    clear hC
    refine wpAnyH_take (i := 10) (v := ?_) rfl (by kernel_rfl) (by kernel_rfl) (by kernel_rfl) (fun _ _ _ h => h) (Or.inl ⟨by rfl, ?_⟩) (by assumption) ?_
    rotate_left
    · intro W0 hSw; obtain ⟨hSa, hSb⟩ := hSw; go_simp; all_goals (with_reducible rfl)
    try simp only [Act.put, List.getElem_toArray, List.getElem_cons_succ, List.getElem_cons_zero, List.setIfInBounds_toArray, List.set_cons_zero, List.set_cons_succ]
    refine wpAnyH_take (i := 11) (v := ?_) rfl (by kernel_rfl) (by kernel_rfl) (by kernel_rfl) (fun _ _ _ h => h) (Or.inl ⟨by rfl, ?_⟩) (by assumption) ?_
    rotate_left
    · intro W0 hSw; obtain ⟨hSa, hSb⟩ := hSw; go_simp; all_goals (with_reducible rfl)
    try simp only [Act.put, List.getElem_toArray, List.getElem_cons_succ, List.getElem_cons_zero, List.setIfInBounds_toArray, List.set_cons_zero, List.set_cons_succ]
    refine wpAnyH_take (i := 12) (v := ?_) rfl (by kernel_rfl) (by kernel_rfl) (by kernel_rfl) (fun _ _ _ h => h) (Or.inl ⟨by rfl, ?_⟩) (by assumption) ?_
    rotate_left
    · intro W0 hSw; obtain ⟨hSa, hSb⟩ := hSw; go_simp; all_goals (with_reducible rfl)
    try simp only [Act.put, List.getElem_toArray, List.getElem_cons_succ, List.getElem_cons_zero, List.setIfInBounds_toArray, List.set_cons_zero, List.set_cons_succ]
    refine wpAnyH_take (i := 13) (v := ?_) rfl (by kernel_rfl) (by kernel_rfl) (by kernel_rfl) (fun _ _ _ h => h) (Or.inl ⟨by rfl, ?_⟩) (by assumption) ?_
    rotate_left
    · intro W0 hSw; obtain ⟨hSa, hSb⟩ := hSw; go_simp; all_goals (with_reducible rfl)
    try simp only [Act.put, List.getElem_toArray, List.getElem_cons_succ, List.getElem_cons_zero, List.setIfInBounds_toArray, List.set_cons_zero, List.set_cons_succ]
    refine wpAnyH_take (i := 14) (v := ?_) rfl (by kernel_rfl) (by kernel_rfl) (by kernel_rfl) (fun _ _ _ h => h) (Or.inl ⟨by rfl, ?_⟩) (by assumption) ?_
    rotate_left
    · intro W0 hSw; obtain ⟨hSa, hSb⟩ := hSw; go_simp; all_goals (with_reducible rfl)
    try simp only [Act.put, List.getElem_toArray, List.getElem_cons_succ, List.getElem_cons_zero, List.setIfInBounds_toArray, List.set_cons_zero, List.set_cons_succ]
    refine wpAnyH_take (i := 15) (v := ?_) rfl (by kernel_rfl) (by kernel_rfl) (by kernel_rfl) (fun _ _ _ h => h) (Or.inl ⟨by rfl, ?_⟩) (by assumption) ?_
    rotate_left
    · intro W0 hSw; obtain ⟨hSa, hSb⟩ := hSw; go_simp; all_goals (with_reducible rfl)
    try simp only [Act.put, List.getElem_toArray, List.getElem_cons_succ, List.getElem_cons_zero, List.setIfInBounds_toArray, List.set_cons_zero, List.set_cons_succ]
    refine wpAnyH_take (i := 16) (v := ?_) rfl (by kernel_rfl) (by kernel_rfl) (by kernel_rfl) (fun _ _ _ h => h) (Or.inl ⟨by rfl, ?_⟩) (by assumption) ?_
    rotate_left
    · intro W0 hSw; obtain ⟨hSa, hSb⟩ := hSw; go_simp; all_goals (with_reducible rfl)
    try simp only [Act.put, List.getElem_toArray, List.getElem_cons_succ, List.getElem_cons_zero, List.setIfInBounds_toArray, List.set_cons_zero, List.set_cons_succ]
    refine wpAnyH_take (i := 17) (v := ?_) rfl (by kernel_rfl) (by kernel_rfl) (by kernel_rfl) (fun _ _ _ h => h) (Or.inl ⟨by rfl, ?_⟩) (by assumption) ?_
    rotate_left
    · intro W0 hSw; obtain ⟨hSa, hSb⟩ := hSw; go_simp; all_goals (with_reducible rfl)
    try simp only [Act.put, List.getElem_toArray, List.getElem_cons_succ, List.getElem_cons_zero, List.setIfInBounds_toArray, List.set_cons_zero, List.set_cons_succ]
    refine wpAnyH_take (i := 18) (v := ?_) rfl (by kernel_rfl) (by kernel_rfl) (by kernel_rfl) (fun _ _ _ h => h) (Or.inl ⟨by rfl, ?_⟩) (by assumption) ?_
    rotate_left
    · intro W0 hSw; obtain ⟨hSa, hSb⟩ := hSw; go_simp; all_goals (with_reducible rfl)
    try simp only [Act.put, List.getElem_toArray, List.getElem_cons_succ, List.getElem_cons_zero, List.setIfInBounds_toArray, List.set_cons_zero, List.set_cons_succ]
    refine wpAnyH_take (i := 19) (v := ?_) rfl (by kernel_rfl) (by kernel_rfl) (by kernel_rfl) (fun _ _ _ h => h) (Or.inl ⟨by rfl, ?_⟩) (by assumption) ?_
    rotate_left
    · intro W0 hSw; obtain ⟨hSa, hSb⟩ := hSw; go_simp; all_goals (with_reducible rfl)
    try simp only [Act.put, List.getElem_toArray, List.getElem_cons_succ, List.getElem_cons_zero, List.setIfInBounds_toArray, List.set_cons_zero, List.set_cons_succ]
    refine wpAnyH_ready (rs := [20]) (by kernel_rfl) (by simp) ?_
    refine AllReadyH.cons rfl (fun K hK => ?_) AllReadyH.nil
    go_simp
    go_wp2_with (go_at_call 15; (refine (A2.out _ hHeld.1).mono ?_); rintro e wA1 ⟨pwA1, cwA1, rfl, vwA1, bwA1, ywA1, zwA1⟩)
    have hC := hHeld.2.trans (ywA1.mono hHeld.2.size)
    refine hK.out _ _ ?_ (fun hHeld2 => ?_)
    · exact ⟨bwA1, hC⟩
    clear hK K hHeld hHeld2
    have hHeld : Below w7.heap.size w7 wA1 ∧ Below wA1.heap.size wA1 wA1 := ⟨bwA1, zwA1⟩
    refine held_mono (S' := fun W => Below w7.heap.size w7 W ∧ Below wA1.heap.size wA1 W) (fun W hW => ⟨hW.1, hC.trans (hW.2.mono hC.size)⟩) _ _ _ _ ?_
    clear hC
    refine wpAnyH_take (i := 21) (v := ?_) rfl (by kernel_rfl) (by kernel_rfl) (by kernel_rfl) (fun _ _ _ h => h) (Or.inl ⟨by rfl, ?_⟩) (by assumption) ?_
    rotate_left
    · intro W0 hSw; obtain ⟨hSa, hSb⟩ := hSw; go_simp; all_goals (with_reducible rfl)
    try simp only [Act.put, List.getElem_toArray, List.getElem_cons_succ, List.getElem_cons_zero, List.setIfInBounds_toArray, List.set_cons_zero, List.set_cons_succ]
    refine wpAnyH_take (i := 22) (v := ?_) rfl (by kernel_rfl) (by kernel_rfl) (by kernel_rfl) (fun _ _ _ h => h) (Or.inl ⟨by rfl, ?_⟩) (by assumption) ?_
    rotate_left
    · intro W0 hSw; obtain ⟨hSa, hSb⟩ := hSw; go_simp; all_goals (with_reducible rfl)
    try simp only [Act.put, List.getElem_toArray, List.getElem_cons_succ, List.getElem_cons_zero, List.setIfInBounds_toArray, List.set_cons_zero, List.set_cons_succ]
    refine wpAnyH_take (i := 23) (v := ?_) rfl (by kernel_rfl) (by kernel_rfl) (by kernel_rfl) (fun _ _ _ h => h) (Or.inl ⟨by rfl, ?_⟩) (by assumption) ?_
    rotate_left
    · intro W0 hSw; obtain ⟨hSa, hSb⟩ := hSw; go_simp; all_goals (with_reducible rfl)
    try simp only [Act.put, List.getElem_toArray, List.getElem_cons_succ, List.getElem_cons_zero, List.setIfInBounds_toArray, List.set_cons_zero, List.set_cons_succ]
    refine wpAnyH_take (i := 24) (v := ?_) rfl (by kernel_rfl) (by kernel_rfl) (by kernel_rfl) (fun _ _ _ h => h) (Or.inl ⟨by rfl, ?_⟩) (by assumption) ?_
    rotate_left
    · intro W0 hSw; obtain ⟨hSa, hSb⟩ := hSw; go_simp; all_goals (with_reducible rfl)
    try simp only [Act.put, List.getElem_toArray, List.getElem_cons_succ, List.getElem_cons_zero, List.setIfInBounds_toArray, List.set_cons_zero, List.set_cons_succ]
    refine wpAnyH_take (i := 25) (v := ?_) rfl (by kernel_rfl) (by kernel_rfl) (by kernel_rfl) (fun _ _ _ h => h) (Or.inl ⟨by rfl, ?_⟩) (by assumption) ?_
    rotate_left
    · intro W0 hSw; obtain ⟨hSa, hSb⟩ := hSw; go_simp; all_goals (with_reducible rfl)
    try simp only [Act.put, List.getElem_toArray, List.getElem_cons_succ, List.getElem_cons_zero, List.setIfInBounds_toArray, List.set_cons_zero, List.set_cons_succ]
    refine wpAnyH_take (i := 26) (v := ?_) rfl (by kernel_rfl) (by kernel_rfl) (by kernel_rfl) (fun _ _ _ h => h) (Or.inl ⟨by rfl, ?_⟩) (by assumption) ?_
    rotate_left
    · intro W0 hSw; obtain ⟨hSa, hSb⟩ := hSw; go_simp; all_goals (with_reducible rfl)
    try simp only [Act.put, List.getElem_toArray, List.getElem_cons_succ, List.getElem_cons_zero, List.setIfInBounds_toArray, List.set_cons_zero, List.set_cons_succ]
    refine wpAnyH_take (i := 27) (v := undef) rfl (by kernel_rfl) (by kernel_rfl) (by kernel_rfl) (fun _ _ _ h => h) (Or.inr ⟨by rfl, rfl⟩) (by assumption) ?_
    try simp only [Act.put, List.getElem_toArray, List.getElem_cons_succ, List.getElem_cons_zero, List.setIfInBounds_toArray, List.set_cons_zero, List.set_cons_succ]
    refine wpAnyH_take (i := 28) (v := undef) rfl (by kernel_rfl) (by kernel_rfl) (by kernel_rfl) (fun _ _ _ h => h) (Or.inr ⟨by rfl, rfl⟩) (by assumption) ?_
    try simp only [Act.put, List.getElem_toArray, List.getElem_cons_succ, List.getElem_cons_zero, List.setIfInBounds_toArray, List.set_cons_zero, List.set_cons_succ]
    refine wpAnyH_take (i := 29) (v := undef) rfl (by kernel_rfl) (by kernel_rfl) (by kernel_rfl) (fun _ _ _ h => h) (Or.inr ⟨by rfl, rfl⟩) (by assumption) ?_
    try simp only [Act.put, List.getElem_toArray, List.getElem_cons_succ, List.getElem_cons_zero, List.setIfInBounds_toArray, List.set_cons_zero, List.set_cons_succ]
    refine wpAnyH_take (i := 30) (v := undef) rfl (by kernel_rfl) (by kernel_rfl) (by kernel_rfl) (fun _ _ _ h => h) (Or.inr ⟨by rfl, rfl⟩) (by assumption) ?_
    try simp only [Act.put, List.getElem_toArray, List.getElem_cons_succ, List.getElem_cons_zero, List.setIfInBounds_toArray, List.set_cons_zero, List.set_cons_succ]
    refine wpAnyH_take (i := 31) (v := undef) rfl (by kernel_rfl) (by kernel_rfl) (by kernel_rfl) (fun _ _ _ h => h) (Or.inr ⟨by rfl, rfl⟩) (by assumption) ?_
    try simp only [Act.put, List.getElem_toArray, List.getElem_cons_succ, List.getElem_cons_zero, List.setIfInBounds_toArray, List.set_cons_zero, List.set_cons_succ]
    refine wpAnyH_take (i := 32) (v := undef) rfl (by kernel_rfl) (by kernel_rfl) (by kernel_rfl) (fun _ _ _ h => h) (Or.inr ⟨by rfl, rfl⟩) (by assumption) ?_
    try simp only [Act.put, List.getElem_toArray, List.getElem_cons_succ, List.getElem_cons_zero, List.setIfInBounds_toArray, List.set_cons_zero, List.set_cons_succ]
    refine wpAnyH_take (i := 33) (v := ?_) rfl (by kernel_rfl) (by kernel_rfl) (by kernel_rfl) (fun _ _ _ h => h) (Or.inl ⟨by rfl, ?_⟩) (by assumption) ?_
    rotate_left
    · intro W0 hSw; obtain ⟨hSa, hSb⟩ := hSw; go_simp; all_goals (with_reducible rfl)
    try simp only [Act.put, List.getElem_toArray, List.getElem_cons_succ, List.getElem_cons_zero, List.setIfInBounds_toArray, List.set_cons_zero, List.set_cons_succ]
    refine wpAnyH_take (i := 34) (v := ?_) rfl (by kernel_rfl) (by kernel_rfl) (by kernel_rfl) (fun _ _ _ h => h) (Or.inl ⟨by rfl, ?_⟩) (by assumption) ?_
    rotate_left
    · intro W0 hSw; obtain ⟨hSa, hSb⟩ := hSw; go_simp; all_goals (with_reducible rfl)
    try simp only [Act.put, List.getElem_toArray, List.getElem_cons_succ, List.getElem_cons_zero, List.setIfInBounds_toArray, List.set_cons_zero, List.set_cons_succ]
    refine wpAnyH_take (i := 35) (v := ?_) rfl (by kernel_rfl) (by kernel_rfl) (by kernel_rfl) (fun _ _ _ h => h) (Or.inl ⟨by rfl, ?_⟩) (by assumption) ?_
    rotate_left
    · intro W0 hSw; obtain ⟨hSa, hSb⟩ := hSw; go_simp; all_goals (with_reducible rfl)
    try simp only [Act.put, List.getElem_toArray, List.getElem_cons_succ, List.getElem_cons_zero, List.setIfInBounds_toArray, List.set_cons_zero, List.set_cons_succ]
    refine wpAnyH_done (by kernel_rfl) ?_ _
    go_wp2_with fail
    go_ret
    exact ⟨rfl, HB.out.trans (hHeld.1.mono HB.out.size)⟩

end Go.Proofs.YthiaflnlmabikaaDoor.textsSums
