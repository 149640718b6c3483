/-
  SortedTies: marks of one number are told by their names, rising; one that is there is not told twice.
-/
import Derived.Test.YtodpocciimbjbaaDoorSrtLaws
import Derived.Test.YtodpocciimbjbaaDoorRefVals
import Derived.Test.YtodpocciimbjbaaDoorRefTexts
import Derived.Test.YtodpocciimbjbaaDoorRefIn
import Derived.Deep.QuietTactic
import Derived.Deep.DeepCutAuto
import Derived.BigQuiet
import Derived.StillTailTactics
import Derived.Deep.RegionLaw
namespace Go.Proofs.YtodpocciimbjbaaDoor.sortedTies
open Go.RowKit Kit StrT RowG BOrd ValT StoT ReplyT ReplyMath ValM BytesIn DoT Low SrtT NumL NumW NumMath ReplyM SrtM SaidT RefR DoV LawK SrtL RefV ReplyM
set_option linter.unusedVariables false
set_option maxRecDepth 100000
-- ASKS: NumL.Gd


theorem cut20 {Tx Vx : ByteArray} (h : Vx = if Tx.size ≤ 20 then Tx else Tx.extract 0 20) : Vx.data.toList.length ≤ 20 := by
  rw [str_len]
  exact cutN h
theorem ansR_row' {α : Type} {E : Enc α} {base g : Nat} {W : World} {v : Value} {L : List α} {cs : Array Value} (h : AnsR E base W v L) (ha : g < base) : AnsR E base (W.setRow g cs) v L := ansR_row h ha
theorem put_short {W : List (List UInt8)} {s : List UInt8} {m : Nat} (hu : rises W) (h : ∀ y ∈ W, y.length ≤ m) (hs : s.length ≤ m) : ∀ y ∈ putL W s, y.length ≤ m := fun y hy => by
  rcases (putL_mem s y hu).1 hy with rfl | hy
  · exact hs
  · exact h y hy

set_option maxHeartbeats 16000000 in
theorem walk (q : Option Addr) (L : List (List UInt8)) (n c : Nat) (x : Int) (w : World) (hL : L.length = n) (h : StrT.Ss w q L) (hz : ∀ s ∈ L, s.length ≤ 140737488351232) (hcap : n ≤ c) (hcm : c ≤ 9223372036854775807) (hnil : q = none → c = 0) (x0 : -9223372036854775808 ≤ x) (x1 : x ≤ 9223372036854775807) (hg : Gd w) :
    Calls Tryd.prog 6 #[.slice q n c, .int .i64 x] w fun e w' => e = .returned (.bool true) ∧ Below w.heap.size w w' := by
  have HG := Lib.hid (fun W (h : Below w.heap.size w W) => hg.keep h)
  have C0 := Lib.hid (shown_any w hg)
  obtain ⟨F1, hF1⟩ : ∃ F : ByteArray, F = ⟨(Lib.itoa x).toArray⟩ := ⟨_, rfl⟩
  have hF1z : F1.size ≤ 20 := by rw [hF1]; exact text_len _ (by omega) (by omega)
  have HF1 := Lib.hid (show F1.data.toList = Lib.itoa x by rw [hF1])
  have CT1 := Lib.hid (fun W => (show Calls Tryd.prog 12 #[.int .i64 x] W (fun e w' => e = .returned (.string F1) ∧ Below W.heap.size W w') by rw [hF1]; exact Ref01.text_any x.natAbs x W (Nat.le_refl _) (by omega) (by omega)))
  clear hF1
  have HX := Lib.hid (And.intro x0 x1)
  have HLn := Lib.hid hL
  have HS := Lib.hid (fun W (hW : Below w.heap.size w W) => h.keep hW)
  have HZ := Lib.hid hz
  obtain ⟨mm, hmm⟩ : ∃ mm, mm = min n 8 := ⟨_, rfl⟩
  have hmn : mm ≤ n := by omega
  have hm8 : mm ≤ 8 := by omega
  have HMm := Lib.hid hmm
  clear hmm h hz hnil hg hL x0 x1
  go_enter Tryd.func6, Tryd.ntmps6
  go_wp2_with fail
  with_reducible refine C0.out.mono ?_
  rintro e w1 ⟨rfl, hb1⟩
  have HB := Lib.hid hb1
  clear hb1 C0
  have HV0 := Lib.hid (show VB (w1.alloc (.cells #[.int .u8 0, .string ⟨#[]⟩, .slice none 0 0, .slice none 0 0, .slice none 0 0] 26)) w1.heap.size pv0 from VB.new (pv0_in w1))
  have HBa := Lib.hid (HB.out.trans ((Kit.below1 w1 (.cells #[.int .u8 0, .string ⟨#[]⟩, .slice none 0 0, .slice none 0 0, .slice none 0 0] 26)).mono HB.out.size))
  have HGl := Lib.hid HB.out.size
  clear HB
  go_upto_region 3 with fail
  generalize hgg : w1.heap.size = g6 at HV0 HGl ⊢
  generalize hww : w1.alloc (.cells #[.int .u8 0, .string ⟨#[]⟩, .slice none 0 0, .slice none 0 0, .slice none 0 0] 26) = w2 at HV0 HBa ⊢
  have hg2 : w2.heap.size = g6 + 1 := by rw [← hww, ← hgg]; simp
  clear hgg hww
  have HR0 := Lib.hid (OwnR.ans (ownR_new strE (g6 + 1) w2 w2.heap.size rfl (by omega)))
  have HV1 := Lib.hid (show VB (w2.alloc (.cells #[] 9)) g6 pv0 from HV0.out.keep (Kit.below1 _ _))
  have HB1 := Lib.hid (show Below w.heap.size w (w2.alloc (.cells #[] 9)) from HBa.out.trans ((Kit.below1 w2 _).mono HBa.out.size))
  have HE0 := Lib.hid (show PV.d pv0 = zV (oneN x []) from rfl)
  have HF0 := Lib.hid (show ∀ j, PV.at_ pv0 j → j ≠ g6 from fun j hj => absurd hj (pv0_at j))
  have HUp0 := Lib.hid (show rises ([] : List (List UInt8)) from List.Pairwise.nil)
  have HSh0 := Lib.hid (show ∀ s ∈ ([] : List (List UInt8)), s.length ≤ 20 from fun s hs => by cases hs)
  clear HV0 HBa hg2
  go_wp2_with fail
  go_loopw [7, 8] (fun s7 i wr => ∃ (j : Nat) (Wn : List (List UInt8)) (p : PV), j ≤ mm ∧ i = .int .i64 (j : Int) ∧ Hid (AnsR strE (g6 + 1) wr s7 Wn) ∧ Hid (rises Wn) ∧ Hid (Wn.length ≤ j) ∧ Hid (∀ s ∈ Wn, s.length ≤ 20) ∧ Hid (p.d = zV (oneN x Wn)) ∧ Hid (VB wr g6 p) ∧ Hid (∀ k, p.at_ k → k ≠ g6) ∧ Hid (Below w.heap.size w wr)) (fun _ i _ => mm - (intOf i).toNat)
  case atStart => exact ⟨0, [], pv0, Nat.zero_le _, rfl, HR0, HUp0, Lib.hid (Nat.le_refl _), HSh0, HE0, HV1, HF0, HB1⟩
  case round =>
    clear HV1 HF0 HB1 HE0 HUp0 HSh0 HR0
    obtain ⟨j, Wn, p, hj, rfl, HR, HUp, HWl, HSh, HD6, HV6, HF6, HB⟩ := hrel
    rename World => wr
    obtain ⟨k6, S6, ql6, nl6, cl6, qh6, nh6, ch6, qz6, nz6, cz6, d6⟩ := p
    have HD6 := Lib.hid (show PV.d ⟨k6, S6, ql6, nl6, cl6, qh6, nh6, ch6, qz6, nz6, cz6, d6⟩ = zV (oneN x Wn) from HD6.out)
    obtain ⟨q7, c7, rfl, hR1, hR2, hR3, hR4, hR5⟩ := id HR.out
    have HSR := Lib.hid (show SR wr q7 Wn.length c7 Wn from ⟨rfl, hR3, hR4, hR5, rs_ss.1 hR1⟩)
    have HIn := Lib.hid (one_in x Wn HX.out.1 HX.out.2)
    obtain ⟨nw, hnw⟩ : ∃ nw, nw = Wn.length := ⟨_, rfl⟩
    rw [← hnw] at HSR HWl ⊢
    have HNw := Lib.hid hnw
    have hw8 : nw ≤ 8 := by have := HWl.out; omega
    clear hR1 hR2 hR3 hR4 hR5 hnw
    by_cases hlt : j < mm
    · have t1 : decide ((j : Int) < (n : Int)) = true := decide_eq_true (by omega)
      have t2 : decide ((j : Int) < 8) = true := decide_eq_true (by omega)
      have hj0 : (0 : Int) ≤ (j : Int) := by omega
      have hjn : (j : Int) < (n : Int) := by omega
      obtain ⟨b, off, rfl, hbl, hcx⟩ := ss_word (HS.out wr HB.out) j (by rw [HLn.out]; omega)
      obtain ⟨Tx, hT, hT2⟩ := str_of (wd L j)
      rw [hT2] at hcx
      have hTz : Tx.size ≤ 140737488351232 := by rw [← str_len, hT]; exact wd_le HZ.out j
      obtain ⟨Vx, hVx⟩ : ∃ Vx : ByteArray, Vx = if Tx.size ≤ 20 then Tx else Tx.extract 0 20 := ⟨_, rfl⟩
      have hVxz := cutN hVx
      obtain ⟨mx, hmx⟩ : ∃ mx : Nat, mx = min Tx.size 20 := ⟨_, rfl⟩
      have hminmx : min (Tx.size : Int) 20 = (mx : Int) := by omega
      have slVx : ∀ W, (Instr.slice 9 (.string Tx) none (some (.int .i64 (mx : Int))) none).run Tryd.prog W = .ok (.string Vx) W := fun W => by
        have h := run_slice_string_h (P := Tryd.prog) W 9 Tx Tryd.underlying9 .i64 (mx : Int) (by omega) (by omega)
        rw [h, hVx]
        split
        · rw [show ((mx : Nat) : Int).toNat = Tx.size by omega, ByteArray.extract_zero_size]
        · rw [show ((mx : Nat) : Int).toNat = 20 by omega]
      have HVx := Lib.hid (cut20 hVx)
      clear hVx hmx hVxz
      clear hbl hT hT2
      go_upto_region 7 with fail
      go_cut [9] (fun s9 wx => s9 = .string Vx ∧ Hid (Below wr.heap.size wr wx))
      case first =>
        go_region
        all_goals
          go_wp2_with fail
          go_meet
          exact ⟨rfl, Lib.hid (Below.refl _ _).drew⟩
      case rest =>
      obtain ⟨rfl, hbn⟩ := hcut
      rename World => w3
      have HV6 := Lib.hid (HV6.out.keep hbn.out)
      have HR := Lib.hid (HR.out.keep hbn.out)
      have HSR := Lib.hid (HSR.out.keep hbn.out)
      have HB := Lib.hid (HB.out.trans (hbn.out.mono HB.out.size))
      clear hbn hcx hTz slVx hminmx
      have CI := Lib.hid (StrS.in_any q7 Wn nw c7 Vx Vx.data.toList w3 HSR.out.ln HSR.out.ss rfl (by omega))
      have HRow := Lib.hid (one_row x F1.data.toList Vx.data.toList HUp.out HF1.out HX.out.1 HX.out.2)
      have HUo := Lib.hid (one_up x HUp.out)
      have CPu := Lib.hid (fun Y (hY : Below w3.heap.size w3 Y) => rput q7 Wn nw c7 Vx Vx.data.toList Y HSR.out.ln (HSR.out.keep hY).ss (by omega) rfl)
      have HUp2 := Lib.hid (putL_rises Vx.data.toList HUp.out)
      have HSh2 := Lib.hid (put_short HUp.out HSh.out HVx.out)
      have HLn2 := Lib.hid (show (putL Wn Vx.data.toList).length ≤ j + 1 by have := putL_len Vx.data.toList HUp.out; have := HWl.out; have := HNw.out; omega)
      clear HUp HSh
      by_cases hin : Vx.data.toList ∈ Wn
      · rw [show decide (Vx.data.toList ∈ Wn) = true by simp [hin]] at CI
        have HRow := Lib.hid (show rowD 0 (oneN x Wn) [F1.data.toList, Vx.data.toList] = (oneN x (putL Wn Vx.data.toList), int 0) by rw [HRow.out, if_pos hin])
        go_wp2_with fail
        with_reducible refine CI.out.mono ?_
        rintro e w4 ⟨rfl, rfl⟩
        rename World => w4
        go_upto_region 9 with fail
        have CD := Lib.hid (fun (Y : World) (g : Nat) (hB : Below w.heap.size w Y) (hpv : PV.In Y ⟨k6, S6, ql6, nl6, cl6, qh6, nh6, ch6, qz6, nz6, cz6, d6⟩) (hss : StrT.Ss Y (some ⟨g, 0, none⟩) [(⟨#[122, 97, 100, 100]⟩ : ByteArray).data.toList, (⟨#[107]⟩ : ByteArray).data.toList, (F1 : ByteArray).data.toList, (Vx : ByteArray).data.toList]) => (show Calls Tryd.prog 11 #[.agg #[.int .u8 k6, .string S6, .slice ql6 nl6 cl6, .slice qh6 nh6 ch6, .slice qz6 nz6 cz6], .slice (some ⟨g, 0, none⟩) 4 4] Y (DoN (zV (oneN x (putL Wn Vx.data.toList))) (int 0) Y) from don_to (HRow.out) (onR 0 (by decide) ⟨k6, S6, ql6, nl6, cl6, qh6, nh6, ch6, qz6, nz6, cz6, d6⟩ (oneN x Wn) ⟨#[122, 97, 100, 100]⟩ ⟨#[107]⟩ [(F1 : ByteArray).data.toList, (Vx : ByteArray).data.toList] (some ⟨g, 0, none⟩) 4 4 Y hpv HD6.out (HG.out Y hB) rfl (Nat.le_refl _) (by decide) hss (by decide) (by decide) ⟨HUo.out, HIn.out, by rw [one_len]; have := HNw.out; omega, Nat.le_refl 2, by show F1.data.toList.length ≤ _; rw [str_len]; omega⟩)))
        go_cut [11, 12] (fun s11 s12 wx => ∃ (g : Nat) (k2 : Int) (S2 : ByteArray) (ql2 : Option Addr) (nl2 cl2 : Nat) (qh2 : Option Addr) (nh2 ch2 : Nat) (qz2 : Option Addr) (nz2 cz2 : Nat) (d2 : V), ∃ (qr : Option Addr) (cr : Nat), s11 = .pointer (some ⟨g, 0, none⟩) ∧ s12 = .slice qr 4 cr ∧ Hid (VB wx g ⟨k2, S2, ql2, nl2, cl2, qh2, nh2, ch2, qz2, nz2, cz2, d2⟩) ∧ Hid (d2 = zV (oneN x (putL Wn Vx.data.toList))) ∧ Hid (∀ k, PV.at_ ⟨k2, S2, ql2, nl2, cl2, qh2, nh2, ch2, qz2, nz2, cz2, d2⟩ k → w4.heap.size ≤ k) ∧ Hid (Below w4.heap.size w4 wx) ∧ Hid (∀ W, Below wx.heap.size wx W → (convert 29 9 (.slice qr 4 cr)).run Tryd.prog W = .ok (.string ⟨#[58, 48, 13, 10]⟩) W))
        case first =>
          have hr0 : VB _ g6 ⟨k6, S6, ql6, nl6, cl6, qh6, nh6, ch6, qz6, nz6, cz6, d6⟩ := HV6.out
          obtain ⟨-, -, r00, r01, r02, r03, r04⟩ := hr0.room
          dsimp only at r00 r01 r02 r03 r04
          clear hr0
          have hr1 : VB _ g6 ⟨k6, S6, ql6, nl6, cl6, qh6, nh6, ch6, qz6, nz6, cz6, d6⟩ := HV6.out.keep (Kit.below1 _ (.cells #[.int .u8 0, .string ⟨#[]⟩, .slice none 0 0, .slice none 0 0, .slice none 0 0] 26))
          obtain ⟨-, -, r10, r11, r12, r13, r14⟩ := hr1.room
          dsimp only at r10 r11 r12 r13 r14
          clear hr1
          go_region_law (first
            | (go_simp; (with_reducible refine (CT1.out _).mono ?_); rintro e wq4 ⟨rfl, hb4⟩; dsimp only
               have hb4' : Below w4.heap.size w4 wq4 := by first | exact hb4 | exact c_dr hb4 | exact c_al hb4 | exact c_da hb4
               have HB4 := Lib.hid (HB.out.trans (hb4'.mono HB.out.size))
               have HW4 := Lib.hid hb4'
               have HL4 := Lib.hid hb4'.size
               have HL0 := Lib.hid HB.out.size
               have K_HV6 := Lib.hid (HV6.out.keep hb4')
               first
                 | (have HZ4 := Lib.hid (show VZ wq4 w4.heap.size from vz_al hb4))
                 | (have HZ4 := Lib.hid (show VZ wq4 w4.heap.size from vz_da hb4))
                 | skip
               have hr2 : VB _ g6 ⟨k6, S6, ql6, nl6, cl6, qh6, nh6, ch6, qz6, nz6, cz6, d6⟩ := K_HV6.out
               obtain ⟨-, -, r20, r21, r22, r23, r24⟩ := hr2.room
               dsimp only at r20 r21 r22 r23 r24
               clear hr2
               have hr3 : VB _ g6 ⟨k6, S6, ql6, nl6, cl6, qh6, nh6, ch6, qz6, nz6, cz6, d6⟩ := K_HV6.out.keep (Kit.below1 _ (.cells #[.int .u8 0, .string ⟨#[]⟩, .slice none 0 0, .slice none 0 0, .slice none 0 0] 26))
               obtain ⟨-, -, r30, r31, r32, r33, r34⟩ := hr3.room
               dsimp only at r30 r31 r32 r33 r34
               clear hr3
               have hr4 : VB _ g6 ⟨k6, S6, ql6, nl6, cl6, qh6, nh6, ch6, qz6, nz6, cz6, d6⟩ := K_HV6.out.keep (Kit.below1 _ (.cells #[.string ⟨#[122, 97, 100, 100]⟩, .string ⟨#[107]⟩, .string F1, .string Vx] 9))
               obtain ⟨-, -, r40, r41, r42, r43, r44⟩ := hr4.room
               dsimp only at r40 r41 r42 r43 r44
               clear hr4
               have hr5 : VB _ g6 ⟨k6, S6, ql6, nl6, cl6, qh6, nh6, ch6, qz6, nz6, cz6, d6⟩ := (K_HV6.out.keep (Kit.below1 _ (.cells #[.int .u8 0, .string ⟨#[]⟩, .slice none 0 0, .slice none 0 0, .slice none 0 0] 26))).keep (Kit.below1 _ (.cells #[.string ⟨#[122, 97, 100, 100]⟩, .string ⟨#[107]⟩, .string F1, .string Vx] 9))
               obtain ⟨-, -, r50, r51, r52, r53, r54⟩ := hr5.room
               dsimp only at r50 r51 r52 r53 r54
               clear hr5
               have hr6 : VB _ g6 ⟨k6, S6, ql6, nl6, cl6, qh6, nh6, ch6, qz6, nz6, cz6, d6⟩ := (K_HV6.out.keep (Kit.below1 _ (.cells #[.string ⟨#[122, 97, 100, 100]⟩, .string ⟨#[107]⟩, .string F1, .string Vx] 9))).keep (Kit.below1 _ (.cells #[.int .u8 0, .string ⟨#[]⟩, .slice none 0 0, .slice none 0 0, .slice none 0 0] 26))
               obtain ⟨-, -, r60, r61, r62, r63, r64⟩ := hr6.room
               dsimp only at r60 r61 r62 r63 r64
               clear hr6
               clear hb4 hb4')
            | (go_simp; (with_reducible refine (CD.out _ _ (by first | exact HB4.out.alloc HB4.out.size _ | exact (HB4.out.alloc HB4.out.size _).alloc (Below.size (HB4.out.alloc HB4.out.size _)) _) (by first | exact (K_HV6.out.keep (Kit.below1 _ _)).pv | exact ((K_HV6.out.keep (Kit.below1 _ _)).keep (Kit.below1 _ _)).pv) (by first | exact ss4_at wq4 _ rfl ⟨#[122, 97, 100, 100]⟩ ⟨#[107]⟩ F1 Vx | exact ss4_at _ _ (by simp) ⟨#[122, 97, 100, 100]⟩ ⟨#[107]⟩ F1 Vx | exact StrT.Ss.keep (ss4_at wq4 _ rfl ⟨#[122, 97, 100, 100]⟩ ⟨#[107]⟩ F1 Vx) (Kit.below1 _ _))).mono ?_); rintro e wq5 ⟨p9, vr, rfl, hI, hd, hn, hA, hb5⟩; dsimp only [PV.agg]
               obtain ⟨k9, S9, ql9, nl9, cl9, qh9, nh9, ch9, qz9, nz9, cz9, d9⟩ := p9
               dsimp only
               obtain ⟨q9, c9, rfl, -⟩ := ans_text hA 4 (by decide +kernel) ⟨#[58, 48, 13, 10]⟩ (by decide +kernel)
               have hb5' : Below wq4.heap.size wq4 wq5 := by first | exact c_al (c_al hb5) | exact c_al hb5
               have HB5 := Lib.hid (HB4.out.trans (hb5'.mono HB4.out.size))
               have HL5 := Lib.hid hb5'.size
               have HE9 := Lib.hid (show d9 = _ from hd)
               have HN9 := Lib.hid (show ∀ k, PV.at_ ⟨k9, S9, ql9, nl9, cl9, qh9, nh9, ch9, qz9, nz9, cz9, d9⟩ k → w4.heap.size ≤ k from fun k hk => by have h1 := hn k hk; have := HL4.out; first | omega | (simp at h1; omega))
               have HW5 := Lib.hid (HW4.out.trans (hb5'.mono HW4.out.size))
               first
                 | (have hzl := HZ4.out.lt
                    have hzc := HZ4.out.keep hb5'
                    have HGt := Lib.hid (gov_five (w := w4) hzc hI (fun j hj => by have h1 := hn j hj; have := HL4.out; first | omega | (simp at h1; omega)) (by have := HL4.out; omega) HW5.out hA (by have := HL4.out; have := HL0.out; first | (simp; done) | (simp; omega)))
                    obtain ⟨⟨z0, z1, z2, z3, z4⟩, y0, y1, y2, y3, y4⟩ := vz_facts hzc
                    clear hzc)
                 | (have hzc : VZ wq5 wq4.heap.size := vz_al (c_al hb5)
                    have HGt := Lib.hid (gov_five (w := w4) hzc hI (fun j hj => by have h1 := hn j hj; have := HL4.out; first | omega | (simp at h1; omega)) (by have := HL4.out; omega) HW5.out hA (by have := HL4.out; have := HL0.out; first | (simp; done) | (simp; omega)))
                    obtain ⟨⟨z0, z1, z2, z3, z4⟩, y0, y1, y2, y3, y4⟩ := vz_facts hzc
                    clear hzc)
                 | (have hzc : VZ wq5 (wq4.alloc (.cells #[.string ⟨#[122, 97, 100, 100]⟩, .string ⟨#[107]⟩, .string F1, .string Vx] 9)).heap.size := vz_al hb5
                    rw [show (wq4.alloc (.cells #[.string ⟨#[122, 97, 100, 100]⟩, .string ⟨#[107]⟩, .string F1, .string Vx] 9)).heap.size = wq4.heap.size + 1 by simp] at hzc
                    have HGt := Lib.hid (gov_five (w := w4) hzc hI (fun j hj => by have h1 := hn j hj; have := HL4.out; first | omega | (simp at h1; omega)) (by have := HL4.out; omega) HW5.out hA (by have := HL4.out; have := HL0.out; first | (simp; done) | (simp; omega)))
                    obtain ⟨⟨z0, z1, z2, z3, z4⟩, y0, y1, y2, y3, y4⟩ := vz_facts hzc
                    clear hzc)
                 | (have HGt := Lib.hid (gov_new (w := w4) hI HW5.out hA))
               clear hI hd hn hA hb5 hb5'))
          all_goals
            go_wp2_with fail
            go_meet
            exact ⟨_, _, _, _, _, _, _, _, _, _, _, _, _, _, _, rfl, rfl, Lib.hid HGt.out.v, HE9, HN9, Lib.hid HGt.out.b, Lib.hid (ans_at HGt.out.a _ (by decide +kernel))⟩
        case rest =>
        obtain ⟨g11, k2, S2, ql2, nl2, cl2, qh2, nh2, ch2, qz2, nz2, cz2, d2, q12, c12, rfl, rfl, HV2, HD2, HN2, hbn, HC12⟩ := hcut
        rename World => w5
        have HLt := Lib.hid (show g6 < w4.heap.size from HV6.out.lt)
        have HV6 := Lib.hid (HV6.out.keep hbn.out)
        have HB := Lib.hid (HB.out.trans (hbn.out.mono HB.out.size))
        have CPu := Lib.hid (CPu.out w5 hbn.out)
        have hc12 := HC12.out w5 (Below.refl _ _)
        clear hbn CD
        go_wp2_with fail
        clear hc12 HC12
        with_reducible refine CPu.out.mono ?_
        rintro e w6 ⟨v7, rfl, hA7, hb6⟩
        have hbn := Lib.hid hb6
        have HA7 := Lib.hid (hA7.low (show g6 + 1 ≤ w5.heap.size from HV6.out.lt))
        have HV6 := Lib.hid (HV6.out.keep hbn.out)
        have HV2 := Lib.hid (HV2.out.keep hbn.out)
        have HB := Lib.hid (HB.out.trans (hbn.out.mono HB.out.size))
        clear hA7 hb6 hbn CPu
        have HFx := Lib.hid (show ∀ k, PV.at_ ⟨k2, S2, ql2, nl2, cl2, qh2, nh2, ch2, qz2, nz2, cz2, d2⟩ k → k ≠ g6 from fun k hk => by have := HN2.out k hk; have := HLt.out; omega)
        have HCs := Lib.hid (show (Tryd.prog.info? 26).map (·.size) = some (#[.int .u8 k2, .string S2, .slice ql2 nl2 cl2, .slice qh2 nh2 ch2, .slice qz2 nz2 cz2] : Array Value).size from val_size)
        have HOn := Lib.hid (show (#[.int .u8 k2, .string S2, .slice ql2 nl2 cl2, .slice qh2 nh2 ch2, .slice qz2 nz2 cz2] : Array Value).all (·.oneCell') = true by simp [Value.oneCell'])
        have HV7 := Lib.hid (VB.put HV6.out HV2.out.pv HFx.out)
        have HB7 := Lib.hid (below_setRow HB.out HGl.out #[.int .u8 k2, .string S2, .slice ql2 nl2 cl2, .slice qh2 nh2 ch2, .slice qz2 nz2 cz2])
        have HA8 := Lib.hid (ansR_row' (g := g6) (cs := #[.int .u8 k2, .string S2, .slice ql2 nl2 cl2, .slice qh2 nh2 ch2, .slice qz2 nz2 cz2]) HA7.out (Nat.lt_succ_self g6))
        have HD7 := Lib.hid (show PV.d ⟨k2, S2, ql2, nl2, cl2, qh2, nh2, ch2, qz2, nz2, cz2, d2⟩ = _ from HD2.out)
        dsimp only at HV7
        obtain ⟨-, -, ra0, ra1, ra2, ra3, ra4⟩ := HV2.out.room
        dsimp only at ra0 ra1 ra2 ra3 ra4
        go_wp2_with (with_reducible refine wpList_store_row rfl 26 (.tmp 6) (.tmp 61) rfl g6 #[.int .u8 k2, .string S2, .slice ql2 nl2 cl2, .slice qh2 nh2 ch2, .slice qz2 nz2 cz2] rfl rfl 26 _ HV6.out.hp HCs.out rfl HOn.out ?_)
        go_roundw
        case rel => exact ⟨j + 1, _, _, by omega, by go_num, HA8, HUp2, HLn2, HSh2, HD7, HV7, HFx, HB7⟩
        case measure => simp [intOf]; omega
      · rw [show decide (Vx.data.toList ∈ Wn) = false by simp [hin]] at CI
        have HRow := Lib.hid (show rowD 0 (oneN x Wn) [F1.data.toList, Vx.data.toList] = (oneN x (putL Wn Vx.data.toList), int 1) by rw [HRow.out, if_neg hin])
        go_wp2_with fail
        with_reducible refine CI.out.mono ?_
        rintro e w4 ⟨rfl, rfl⟩
        rename World => w4
        go_upto_region 9 with fail
        have CD := Lib.hid (fun (Y : World) (g : Nat) (hB : Below w.heap.size w Y) (hpv : PV.In Y ⟨k6, S6, ql6, nl6, cl6, qh6, nh6, ch6, qz6, nz6, cz6, d6⟩) (hss : StrT.Ss Y (some ⟨g, 0, none⟩) [(⟨#[122, 97, 100, 100]⟩ : ByteArray).data.toList, (⟨#[107]⟩ : ByteArray).data.toList, (F1 : ByteArray).data.toList, (Vx : ByteArray).data.toList]) => (show Calls Tryd.prog 11 #[.agg #[.int .u8 k6, .string S6, .slice ql6 nl6 cl6, .slice qh6 nh6 ch6, .slice qz6 nz6 cz6], .slice (some ⟨g, 0, none⟩) 4 4] Y (DoN (zV (oneN x (putL Wn Vx.data.toList))) (int 1) Y) from don_to (HRow.out) (onR 0 (by decide) ⟨k6, S6, ql6, nl6, cl6, qh6, nh6, ch6, qz6, nz6, cz6, d6⟩ (oneN x Wn) ⟨#[122, 97, 100, 100]⟩ ⟨#[107]⟩ [(F1 : ByteArray).data.toList, (Vx : ByteArray).data.toList] (some ⟨g, 0, none⟩) 4 4 Y hpv HD6.out (HG.out Y hB) rfl (Nat.le_refl _) (by decide) hss (by decide) (by decide) ⟨HUo.out, HIn.out, by rw [one_len]; have := HNw.out; omega, Nat.le_refl 2, by show F1.data.toList.length ≤ _; rw [str_len]; omega⟩)))
        go_cut [11, 12] (fun s11 s12 wx => ∃ (g : Nat) (k2 : Int) (S2 : ByteArray) (ql2 : Option Addr) (nl2 cl2 : Nat) (qh2 : Option Addr) (nh2 ch2 : Nat) (qz2 : Option Addr) (nz2 cz2 : Nat) (d2 : V), ∃ (qr : Option Addr) (cr : Nat), s11 = .pointer (some ⟨g, 0, none⟩) ∧ s12 = .slice qr 4 cr ∧ Hid (VB wx g ⟨k2, S2, ql2, nl2, cl2, qh2, nh2, ch2, qz2, nz2, cz2, d2⟩) ∧ Hid (d2 = zV (oneN x (putL Wn Vx.data.toList))) ∧ Hid (∀ k, PV.at_ ⟨k2, S2, ql2, nl2, cl2, qh2, nh2, ch2, qz2, nz2, cz2, d2⟩ k → w4.heap.size ≤ k) ∧ Hid (Below w4.heap.size w4 wx) ∧ Hid (∀ W, Below wx.heap.size wx W → (convert 29 9 (.slice qr 4 cr)).run Tryd.prog W = .ok (.string ⟨#[58, 49, 13, 10]⟩) W))
        case first =>
          have hr0 : VB _ g6 ⟨k6, S6, ql6, nl6, cl6, qh6, nh6, ch6, qz6, nz6, cz6, d6⟩ := HV6.out
          obtain ⟨-, -, r00, r01, r02, r03, r04⟩ := hr0.room
          dsimp only at r00 r01 r02 r03 r04
          clear hr0
          have hr1 : VB _ g6 ⟨k6, S6, ql6, nl6, cl6, qh6, nh6, ch6, qz6, nz6, cz6, d6⟩ := HV6.out.keep (Kit.below1 _ (.cells #[.int .u8 0, .string ⟨#[]⟩, .slice none 0 0, .slice none 0 0, .slice none 0 0] 26))
          obtain ⟨-, -, r10, r11, r12, r13, r14⟩ := hr1.room
          dsimp only at r10 r11 r12 r13 r14
          clear hr1
          go_region_law (first
            | (go_simp; (with_reducible refine (CT1.out _).mono ?_); rintro e wq4 ⟨rfl, hb4⟩; dsimp only
               have hb4' : Below w4.heap.size w4 wq4 := by first | exact hb4 | exact c_dr hb4 | exact c_al hb4 | exact c_da hb4
               have HB4 := Lib.hid (HB.out.trans (hb4'.mono HB.out.size))
               have HW4 := Lib.hid hb4'
               have HL4 := Lib.hid hb4'.size
               have HL0 := Lib.hid HB.out.size
               have K_HV6 := Lib.hid (HV6.out.keep hb4')
               first
                 | (have HZ4 := Lib.hid (show VZ wq4 w4.heap.size from vz_al hb4))
                 | (have HZ4 := Lib.hid (show VZ wq4 w4.heap.size from vz_da hb4))
                 | skip
               have hr2 : VB _ g6 ⟨k6, S6, ql6, nl6, cl6, qh6, nh6, ch6, qz6, nz6, cz6, d6⟩ := K_HV6.out
               obtain ⟨-, -, r20, r21, r22, r23, r24⟩ := hr2.room
               dsimp only at r20 r21 r22 r23 r24
               clear hr2
               have hr3 : VB _ g6 ⟨k6, S6, ql6, nl6, cl6, qh6, nh6, ch6, qz6, nz6, cz6, d6⟩ := K_HV6.out.keep (Kit.below1 _ (.cells #[.int .u8 0, .string ⟨#[]⟩, .slice none 0 0, .slice none 0 0, .slice none 0 0] 26))
               obtain ⟨-, -, r30, r31, r32, r33, r34⟩ := hr3.room
               dsimp only at r30 r31 r32 r33 r34
               clear hr3
               have hr4 : VB _ g6 ⟨k6, S6, ql6, nl6, cl6, qh6, nh6, ch6, qz6, nz6, cz6, d6⟩ := K_HV6.out.keep (Kit.below1 _ (.cells #[.string ⟨#[122, 97, 100, 100]⟩, .string ⟨#[107]⟩, .string F1, .string Vx] 9))
               obtain ⟨-, -, r40, r41, r42, r43, r44⟩ := hr4.room
               dsimp only at r40 r41 r42 r43 r44
               clear hr4
               have hr5 : VB _ g6 ⟨k6, S6, ql6, nl6, cl6, qh6, nh6, ch6, qz6, nz6, cz6, d6⟩ := (K_HV6.out.keep (Kit.below1 _ (.cells #[.int .u8 0, .string ⟨#[]⟩, .slice none 0 0, .slice none 0 0, .slice none 0 0] 26))).keep (Kit.below1 _ (.cells #[.string ⟨#[122, 97, 100, 100]⟩, .string ⟨#[107]⟩, .string F1, .string Vx] 9))
               obtain ⟨-, -, r50, r51, r52, r53, r54⟩ := hr5.room
               dsimp only at r50 r51 r52 r53 r54
               clear hr5
               have hr6 : VB _ g6 ⟨k6, S6, ql6, nl6, cl6, qh6, nh6, ch6, qz6, nz6, cz6, d6⟩ := (K_HV6.out.keep (Kit.below1 _ (.cells #[.string ⟨#[122, 97, 100, 100]⟩, .string ⟨#[107]⟩, .string F1, .string Vx] 9))).keep (Kit.below1 _ (.cells #[.int .u8 0, .string ⟨#[]⟩, .slice none 0 0, .slice none 0 0, .slice none 0 0] 26))
               obtain ⟨-, -, r60, r61, r62, r63, r64⟩ := hr6.room
               dsimp only at r60 r61 r62 r63 r64
               clear hr6
               clear hb4 hb4')
            | (go_simp; (with_reducible refine (CD.out _ _ (by first | exact HB4.out.alloc HB4.out.size _ | exact (HB4.out.alloc HB4.out.size _).alloc (Below.size (HB4.out.alloc HB4.out.size _)) _) (by first | exact (K_HV6.out.keep (Kit.below1 _ _)).pv | exact ((K_HV6.out.keep (Kit.below1 _ _)).keep (Kit.below1 _ _)).pv) (by first | exact ss4_at wq4 _ rfl ⟨#[122, 97, 100, 100]⟩ ⟨#[107]⟩ F1 Vx | exact ss4_at _ _ (by simp) ⟨#[122, 97, 100, 100]⟩ ⟨#[107]⟩ F1 Vx | exact StrT.Ss.keep (ss4_at wq4 _ rfl ⟨#[122, 97, 100, 100]⟩ ⟨#[107]⟩ F1 Vx) (Kit.below1 _ _))).mono ?_); rintro e wq5 ⟨p9, vr, rfl, hI, hd, hn, hA, hb5⟩; dsimp only [PV.agg]
               obtain ⟨k9, S9, ql9, nl9, cl9, qh9, nh9, ch9, qz9, nz9, cz9, d9⟩ := p9
               dsimp only
               obtain ⟨q9, c9, rfl, -⟩ := ans_text hA 4 (by decide +kernel) ⟨#[58, 49, 13, 10]⟩ (by decide +kernel)
               have hb5' : Below wq4.heap.size wq4 wq5 := by first | exact c_al (c_al hb5) | exact c_al hb5
               have HB5 := Lib.hid (HB4.out.trans (hb5'.mono HB4.out.size))
               have HL5 := Lib.hid hb5'.size
               have HE9 := Lib.hid (show d9 = _ from hd)
               have HN9 := Lib.hid (show ∀ k, PV.at_ ⟨k9, S9, ql9, nl9, cl9, qh9, nh9, ch9, qz9, nz9, cz9, d9⟩ k → w4.heap.size ≤ k from fun k hk => by have h1 := hn k hk; have := HL4.out; first | omega | (simp at h1; omega))
               have HW5 := Lib.hid (HW4.out.trans (hb5'.mono HW4.out.size))
               first
                 | (have hzl := HZ4.out.lt
                    have hzc := HZ4.out.keep hb5'
                    have HGt := Lib.hid (gov_five (w := w4) hzc hI (fun j hj => by have h1 := hn j hj; have := HL4.out; first | omega | (simp at h1; omega)) (by have := HL4.out; omega) HW5.out hA (by have := HL4.out; have := HL0.out; first | (simp; done) | (simp; omega)))
                    obtain ⟨⟨z0, z1, z2, z3, z4⟩, y0, y1, y2, y3, y4⟩ := vz_facts hzc
                    clear hzc)
                 | (have hzc : VZ wq5 wq4.heap.size := vz_al (c_al hb5)
                    have HGt := Lib.hid (gov_five (w := w4) hzc hI (fun j hj => by have h1 := hn j hj; have := HL4.out; first | omega | (simp at h1; omega)) (by have := HL4.out; omega) HW5.out hA (by have := HL4.out; have := HL0.out; first | (simp; done) | (simp; omega)))
                    obtain ⟨⟨z0, z1, z2, z3, z4⟩, y0, y1, y2, y3, y4⟩ := vz_facts hzc
                    clear hzc)
                 | (have hzc : VZ wq5 (wq4.alloc (.cells #[.string ⟨#[122, 97, 100, 100]⟩, .string ⟨#[107]⟩, .string F1, .string Vx] 9)).heap.size := vz_al hb5
                    rw [show (wq4.alloc (.cells #[.string ⟨#[122, 97, 100, 100]⟩, .string ⟨#[107]⟩, .string F1, .string Vx] 9)).heap.size = wq4.heap.size + 1 by simp] at hzc
                    have HGt := Lib.hid (gov_five (w := w4) hzc hI (fun j hj => by have h1 := hn j hj; have := HL4.out; first | omega | (simp at h1; omega)) (by have := HL4.out; omega) HW5.out hA (by have := HL4.out; have := HL0.out; first | (simp; done) | (simp; omega)))
                    obtain ⟨⟨z0, z1, z2, z3, z4⟩, y0, y1, y2, y3, y4⟩ := vz_facts hzc
                    clear hzc)
                 | (have HGt := Lib.hid (gov_new (w := w4) hI HW5.out hA))
               clear hI hd hn hA hb5 hb5'))
          all_goals
            go_wp2_with fail
            go_meet
            exact ⟨_, _, _, _, _, _, _, _, _, _, _, _, _, _, _, rfl, rfl, Lib.hid HGt.out.v, HE9, HN9, Lib.hid HGt.out.b, Lib.hid (ans_at HGt.out.a _ (by decide +kernel))⟩
        case rest =>
        obtain ⟨g11, k2, S2, ql2, nl2, cl2, qh2, nh2, ch2, qz2, nz2, cz2, d2, q12, c12, rfl, rfl, HV2, HD2, HN2, hbn, HC12⟩ := hcut
        rename World => w5
        have HLt := Lib.hid (show g6 < w4.heap.size from HV6.out.lt)
        have HV6 := Lib.hid (HV6.out.keep hbn.out)
        have HB := Lib.hid (HB.out.trans (hbn.out.mono HB.out.size))
        have CPu := Lib.hid (CPu.out w5 hbn.out)
        have hc12 := HC12.out w5 (Below.refl _ _)
        clear hbn CD
        go_wp2_with fail
        clear hc12 HC12
        with_reducible refine CPu.out.mono ?_
        rintro e w6 ⟨v7, rfl, hA7, hb6⟩
        have hbn := Lib.hid hb6
        have HA7 := Lib.hid (hA7.low (show g6 + 1 ≤ w5.heap.size from HV6.out.lt))
        have HV6 := Lib.hid (HV6.out.keep hbn.out)
        have HV2 := Lib.hid (HV2.out.keep hbn.out)
        have HB := Lib.hid (HB.out.trans (hbn.out.mono HB.out.size))
        clear hA7 hb6 hbn CPu
        have HFx := Lib.hid (show ∀ k, PV.at_ ⟨k2, S2, ql2, nl2, cl2, qh2, nh2, ch2, qz2, nz2, cz2, d2⟩ k → k ≠ g6 from fun k hk => by have := HN2.out k hk; have := HLt.out; omega)
        have HCs := Lib.hid (show (Tryd.prog.info? 26).map (·.size) = some (#[.int .u8 k2, .string S2, .slice ql2 nl2 cl2, .slice qh2 nh2 ch2, .slice qz2 nz2 cz2] : Array Value).size from val_size)
        have HOn := Lib.hid (show (#[.int .u8 k2, .string S2, .slice ql2 nl2 cl2, .slice qh2 nh2 ch2, .slice qz2 nz2 cz2] : Array Value).all (·.oneCell') = true by simp [Value.oneCell'])
        have HV7 := Lib.hid (VB.put HV6.out HV2.out.pv HFx.out)
        have HB7 := Lib.hid (below_setRow HB.out HGl.out #[.int .u8 k2, .string S2, .slice ql2 nl2 cl2, .slice qh2 nh2 ch2, .slice qz2 nz2 cz2])
        have HA8 := Lib.hid (ansR_row' (g := g6) (cs := #[.int .u8 k2, .string S2, .slice ql2 nl2 cl2, .slice qh2 nh2 ch2, .slice qz2 nz2 cz2]) HA7.out (Nat.lt_succ_self g6))
        have HD7 := Lib.hid (show PV.d ⟨k2, S2, ql2, nl2, cl2, qh2, nh2, ch2, qz2, nz2, cz2, d2⟩ = _ from HD2.out)
        dsimp only at HV7
        obtain ⟨-, -, ra0, ra1, ra2, ra3, ra4⟩ := HV2.out.room
        dsimp only at ra0 ra1 ra2 ra3 ra4
        go_wp2_with (with_reducible refine wpList_store_row rfl 26 (.tmp 6) (.tmp 61) rfl g6 #[.int .u8 k2, .string S2, .slice ql2 nl2 cl2, .slice qh2 nh2 ch2, .slice qz2 nz2 cz2] rfl rfl 26 _ HV6.out.hp HCs.out rfl HOn.out ?_)
        go_roundw
        case rel => exact ⟨j + 1, _, _, by omega, by go_num, HA8, HUp2, HLn2, HSh2, HD7, HV7, HFx, HB7⟩
        case measure => simp [intOf]; omega
    · obtain rfl : mm = j := by omega
      have HW160 := Lib.hid (show Wn.flatten.length ≤ 1048576 from Nat.le_trans (flat_le' Wn 20 HSh.out) (by have := HNw.out; omega))
      have HUo := Lib.hid (one_up x HUp.out)
      obtain ⟨NA, HNA⟩ : ∃ NR, Hid ((texts Wn).length = NR) := ⟨_, Lib.hid rfl⟩
      obtain ⟨XA, HXA⟩ : ∃ XR : ByteArray, Hid (XR.data.toList = texts Wn) := ⟨⟨(texts Wn).toArray⟩, Lib.hid rfl⟩
      obtain ⟨NS, HNS⟩ : ∃ NR, Hid ((int (nw : Int)).length = NR) := ⟨_, Lib.hid rfl⟩
      obtain ⟨XS, HXS⟩ : ∃ XR : ByteArray, Hid (XR.data.toList = int (nw : Int)) := ⟨⟨(int (nw : Int)).toArray⟩, Lib.hid rfl⟩
      have HAl := Lib.hid (show rowD 3 (oneN x Wn) [[48], [45, 49]] = (oneN x Wn, texts Wn) by rw [all_row, one_names])
      have HCd := Lib.hid (show rowD 4 (oneN x Wn) [] = (oneN x Wn, int (nw : Int)) by rw [card_row, one_len, HNw.out])
      have HZn := Lib.hid (show (oneN x Wn).length ≤ 8 ∧ (mnames (oneN x Wn)).flatten.length ≤ 1048576 from ⟨by rw [one_len]; have := HNw.out; omega, by rw [one_names]; exact HW160.out⟩)
      have tt : (decide ((mm : Int) < (n : Int)) = false ∧ ¬ (mm : Int) < (n : Int)) ∨ ((decide ((mm : Int) < (n : Int)) = true ∧ (mm : Int) < (n : Int)) ∧ decide ((mm : Int) < 8) = false ∧ ¬ (mm : Int) < 8) := by
        have := HMm.out
        simp only [decide_eq_true_eq, decide_eq_false_iff_not]
        omega
      clear hmn hm8 hj hlt HF6 HUp HSh HR
      rcases tt with ⟨t1, t3⟩ | ⟨⟨t1, t3⟩, t2, t4⟩
      all_goals
        have C1 := Lib.hid (fun (W Y : World) (g : Nat) (hY : Below (W.alloc (.cells #[.string ⟨#[122, 114, 97, 110, 103, 101]⟩, .string ⟨#[107]⟩, .string ⟨#[48]⟩, .string ⟨#[45, 49]⟩] 9)).heap.size (W.alloc (.cells #[.string ⟨#[122, 114, 97, 110, 103, 101]⟩, .string ⟨#[107]⟩, .string ⟨#[48]⟩, .string ⟨#[45, 49]⟩] 9)) Y) (hgw : g = W.heap.size) (hW : Below w.heap.size w W) (hpv : PV.In W ⟨k6, S6, ql6, nl6, cl6, qh6, nh6, ch6, qz6, nz6, cz6, d6⟩) (hdv : PV.d ⟨k6, S6, ql6, nl6, cl6, qh6, nh6, ch6, qz6, nz6, cz6, d6⟩ = zV (oneN x Wn)) => (show Calls Tryd.prog 11 #[.agg #[.int .u8 k6, .string S6, .slice ql6 nl6 cl6, .slice qh6 nh6 ch6, .slice qz6 nz6 cz6], .slice (some ⟨g, 0, none⟩) 4 4] Y (DoN (zV (oneN x Wn)) (texts Wn) W) from by subst hgw; exact don_to (HAl.out) (on4 3 (by decide) ⟨#[122, 114, 97, 110, 103, 101]⟩ ⟨#[107]⟩ ⟨#[48]⟩ ⟨#[45, 49]⟩ (by decide) (by decide) (by decide) ⟨k6, S6, ql6, nl6, cl6, qh6, nh6, ch6, qz6, nz6, cz6, d6⟩ (oneN x Wn) W Y hY hpv hdv (HG.out W hW) ⟨HUo.out, HIn.out, by have := HZn.out.1; omega, by decide, by have := HZn.out.1; omega, HZn.out.2, by decide, by decide⟩)))
        obtain ⟨-, -, ra0, ra1, ra2, ra3, ra4⟩ := HV6.out.room
        dsimp only at ra0 ra1 ra2 ra3 ra4
        go_wp2_with fail
        clear ra0 ra1 ra2 ra3 ra4
        with_reducible refine (C1.out wr _ _ (Below.refl _ _) rfl HB.out HV6.out.pv HD6.out).mono ?_
        rintro e wa ⟨p9, vr9, rfl, hI, hd, hn, hA, hb⟩
        obtain ⟨k9, S9, ql9, nl9, cl9, qh9, nh9, ch9, qz9, nz9, cz9, d9⟩ := p9
        dsimp only [PV.agg]
        obtain ⟨qr9, cr9, rfl, hv9⟩ := ans_text hA NA HNA.out XA HXA.out
        have hbn := hb.trans ((Kit.below1 wa (.cells #[.int .u8 k9, .string S9, .slice ql9 nl9 cl9, .slice qh9 nh9 ch9, .slice qz9 nz9 cz9] 26)).mono hb.size)
        have HV6 := Lib.hid (HV6.out.keep hbn)
        have HSR := Lib.hid (HSR.out.keep hbn)
        have HB := Lib.hid (HB.out.trans (hbn.mono HB.out.size))
        have HV9 := Lib.hid (show VB _ wa.heap.size ⟨k9, S9, ql9, nl9, cl9, qh9, nh9, ch9, qz9, nz9, cz9, d9⟩ from VB.new hI)
        have HD9 := Lib.hid (show PV.d ⟨k9, S9, ql9, nl9, cl9, qh9, nh9, ch9, qz9, nz9, cz9, d9⟩ = _ from hd)
        have hbx := Kit.below1 wa (.cells #[.int .u8 k9, .string S9, .slice ql9 nl9 cl9, .slice qh9 nh9 ch9, .slice qz9 nz9 cz9] 26)
        have HC9 := Lib.hid (fun W hW => hv9 W (hbx.trans (Below.mono hW hbx.size)))
        clear hbx
        have HL9 := Lib.hid (show wr.heap.size ≤ wa.heap.size from Below.size hb)
        clear hI hd hn hA hb hbn hv9
        go_upto_region 15 with fail
        generalize hgg : wa.heap.size = g9 at HV9 HL9 ⊢
        clear hgg
        generalize wa.alloc (.cells #[.int .u8 k9, .string S9, .slice ql9 nl9 cl9, .slice qh9 nh9 ch9, .slice qz9 nz9 cz9] 26) = w4 at HV9 HV6 HSR HB HC9 ⊢
        clear C1 HL9
        have C1 := Lib.hid (fun (W Y : World) (g : Nat) (hY : Below (W.alloc (.cells #[.string ⟨#[122, 99, 97, 114, 100]⟩, .string ⟨#[107]⟩] 9)).heap.size (W.alloc (.cells #[.string ⟨#[122, 99, 97, 114, 100]⟩, .string ⟨#[107]⟩] 9)) Y) (hgw : g = W.heap.size) (hW : Below w.heap.size w W) (hpv : PV.In W ⟨k6, S6, ql6, nl6, cl6, qh6, nh6, ch6, qz6, nz6, cz6, d6⟩) (hdv : PV.d ⟨k6, S6, ql6, nl6, cl6, qh6, nh6, ch6, qz6, nz6, cz6, d6⟩ = zV (oneN x Wn)) => (show Calls Tryd.prog 11 #[.agg #[.int .u8 k6, .string S6, .slice ql6 nl6 cl6, .slice qh6 nh6 ch6, .slice qz6 nz6 cz6], .slice (some ⟨g, 0, none⟩) 2 2] Y (DoN (zV (oneN x Wn)) (int (nw : Int)) W) from by subst hgw; exact don_to (HCd.out) (on2 4 (by decide) ⟨#[122, 99, 97, 114, 100]⟩ ⟨#[107]⟩ (by decide) (by decide) (by decide) ⟨k6, S6, ql6, nl6, cl6, qh6, nh6, ch6, qz6, nz6, cz6, d6⟩ (oneN x Wn) W Y hY hpv hdv (HG.out W hW) ⟨HUo.out, HIn.out, by have := HZn.out.1; omega, trivial⟩)))
        obtain ⟨-, -, ra0, ra1, ra2, ra3, ra4⟩ := HV6.out.room
        dsimp only at ra0 ra1 ra2 ra3 ra4
        go_wp2_with fail
        clear ra0 ra1 ra2 ra3 ra4
        with_reducible refine (C1.out w4 _ _ (Below.refl _ _) rfl HB.out HV6.out.pv HD6.out).mono ?_
        rintro e wa ⟨p5, vr5, rfl, hI, hd, hn, hA, hb⟩
        obtain ⟨k5, S5, ql5, nl5, cl5, qh5, nh5, ch5, qz5, nz5, cz5, d5⟩ := p5
        dsimp only [PV.agg]
        obtain ⟨qr5, cr5, rfl, hv5⟩ := ans_text hA NS HNS.out XS HXS.out
        have hbn := hb.trans ((Kit.below1 wa (.cells #[.int .u8 k5, .string S5, .slice ql5 nl5 cl5, .slice qh5 nh5 ch5, .slice qz5 nz5 cz5] 26)).mono hb.size)
        have HSR := Lib.hid (HSR.out.keep hbn)
        have HC9 := Lib.hid (fun W hW => HC9.out W (hbn.trans (Below.mono hW hbn.size)))
        have HB := Lib.hid (HB.out.trans (hbn.mono HB.out.size))
        have HV5 := Lib.hid (show VB _ wa.heap.size ⟨k5, S5, ql5, nl5, cl5, qh5, nh5, ch5, qz5, nz5, cz5, d5⟩ from VB.new hI)
        have HD5 := Lib.hid (show PV.d ⟨k5, S5, ql5, nl5, cl5, qh5, nh5, ch5, qz5, nz5, cz5, d5⟩ = _ from hd)
        have hbx := Kit.below1 wa (.cells #[.int .u8 k5, .string S5, .slice ql5 nl5 cl5, .slice qh5 nh5 ch5, .slice qz5 nz5 cz5] 26)
        have HC5 := Lib.hid (fun W hW => hv5 W (hbx.trans (Below.mono hW hbx.size)))
        clear hbx
        have HL5 := Lib.hid (show w4.heap.size ≤ wa.heap.size from Below.size hb)
        clear hI hd hn hA hb hbn hv5
        go_upto_region 16 with fail
        generalize hgg : wa.heap.size = g5 at HV5 HL5 ⊢
        clear hgg
        generalize wa.alloc (.cells #[.int .u8 k5, .string S5, .slice ql5 nl5 cl5, .slice qh5 nh5 ch5, .slice qz5 nz5 cz5] 26) = w5 at HV5 HSR HC9 HB HC5 ⊢
        clear C1 HL5
        have hc9 := HC9.out
        have hc5 := HC5.out
        have A1 := Lib.hid (fun W' (h : Below w5.heap.size w5 W') => (show Calls Tryd.prog 15 #[.slice q7 nw c7] W' (Said w5 W' NA XA) from (rtexts_sum q7 Wn nw c7 W' HSR.out.ln (HSR.out.keep h).ss (by omega) HW160.out).mono (fun e w' hh => said_of hh h NA HNA.out XA HXA.out)))
        have A2 := Lib.hid (fun W' (h : Below w5.heap.size w5 W') => (show Calls Tryd.prog 20 #[.int .i64 (nw : Int)] W' (Said w5 W' NS XS) from (rint (nw : Int) W' (by omega) (by omega)).mono (fun e w' hh => said_of hh h NS HNS.out XS HXS.out)))
        clear HC9 HC5 HV6 HD6 HV5 HD5 HV9 HD9 HSR HNA HXA HNS HXS HAl HCd HZn HUo HIn
        refine wp_region_held_drew (S := fun W => Below w5.heap.size w5 W ∧ Below w5.heap.size w5 W) (by kernel_rfl) ?_ (fun hHeld => ?_)
        · exact ⟨(Below.refl _ _).drew, (Below.refl _ _).drew⟩
        refine wpAnyH_take (i := 0) (v := ?_) rfl (by kernel_rfl) (by kernel_rfl) (by kernel_rfl) (fun _ _ _ h => h) (Or.inl ⟨by rfl, ?_⟩) (by assumption) ?_
        rotate_left
        · intro W0 hSw; obtain ⟨hSa, hSb⟩ := hSw; go_simp; all_goals (with_reducible rfl)
        try simp only [Act.put, List.getElem_toArray, List.getElem_cons_zero, List.setIfInBounds_toArray, List.set_cons_zero, List.set_cons_succ]
        refine wpAnyH_take (i := 1) (v := ?_) rfl (by kernel_rfl) (by kernel_rfl) (by kernel_rfl) (fun _ _ _ h => h) (Or.inl ⟨by rfl, ?_⟩) (by assumption) ?_
        rotate_left
        · intro W0 hSw; obtain ⟨hSa, hSb⟩ := hSw; go_simp; all_goals (with_reducible rfl)
        try simp only [Act.put, List.getElem_toArray, List.getElem_cons_succ, List.getElem_cons_zero, List.setIfInBounds_toArray, List.set_cons_zero, List.set_cons_succ]
        refine wpAnyH_take (i := 2) (v := ?_) rfl (by kernel_rfl) (by kernel_rfl) (by kernel_rfl) (fun _ _ _ h => h) (Or.inl ⟨by rfl, ?_⟩) (by assumption) ?_
        rotate_left
        · intro W0 hSw; obtain ⟨hSa, hSb⟩ := hSw; go_simp; all_goals (with_reducible rfl)
        try simp only [Act.put, List.getElem_toArray, List.getElem_cons_succ, List.getElem_cons_zero, List.setIfInBounds_toArray, List.set_cons_zero, List.set_cons_succ]
        refine wpAnyH_take (i := 3) (v := ?_) rfl (by kernel_rfl) (by kernel_rfl) (by kernel_rfl) (fun _ _ _ h => h) (Or.inl ⟨by rfl, ?_⟩) (by assumption) ?_
        rotate_left
        · intro W0 hSw; obtain ⟨hSa, hSb⟩ := hSw; go_simp; all_goals (with_reducible rfl)
        try simp only [Act.put, List.getElem_toArray, List.getElem_cons_succ, List.getElem_cons_zero, List.setIfInBounds_toArray, List.set_cons_zero, List.set_cons_succ]
        refine wpAnyH_take (i := 4) (v := ?_) rfl (by kernel_rfl) (by kernel_rfl) (by kernel_rfl) (fun _ _ _ h => h) (Or.inl ⟨by rfl, ?_⟩) (by assumption) ?_
        rotate_left
        · intro W0 hSw; obtain ⟨hSa, hSb⟩ := hSw; go_simp; all_goals (with_reducible rfl)
        try simp only [Act.put, List.getElem_toArray, List.getElem_cons_succ, List.getElem_cons_zero, List.setIfInBounds_toArray, List.set_cons_zero, List.set_cons_succ]
        refine wpAnyH_ready (rs := [5]) (by kernel_rfl) (by simp) ?_
        refine AllReadyH.cons rfl (fun K hK => ?_) AllReadyH.nil
        go_simp
        go_wp2_with (go_at_call 15; (refine (A1.out _ hHeld.1).mono ?_); rintro e wA0 ⟨pwA0, cwA0, rfl, vwA0, bwA0, ywA0, zwA0⟩)
        have hC := hHeld.2.trans (ywA0.mono hHeld.2.size)
        refine hK.out _ _ ?_ (fun hHeld2 => ?_)
        · exact ⟨bwA0, hC⟩
        clear hK K hHeld hHeld2
        have hHeld : Below w5.heap.size w5 wA0 ∧ Below wA0.heap.size wA0 wA0 := ⟨bwA0, zwA0⟩
        refine held_mono (S' := fun W => Below w5.heap.size w5 W ∧ Below wA0.heap.size wA0 W) (fun W hW => ⟨hW.1, hC.trans (hW.2.mono hC.size)⟩) _ _ _ _ ?_
        clear hC
        refine wpAnyH_take (i := 6) (v := ?_) rfl (by kernel_rfl) (by kernel_rfl) (by kernel_rfl) (fun _ _ _ h => h) (Or.inl ⟨by rfl, ?_⟩) (by assumption) ?_
        rotate_left
        · intro W0 hSw; obtain ⟨hSa, hSb⟩ := hSw; go_simp; all_goals (with_reducible rfl)
        try simp only [Act.put, List.getElem_toArray, List.getElem_cons_succ, List.getElem_cons_zero, List.setIfInBounds_toArray, List.set_cons_zero, List.set_cons_succ]
        refine wpAnyH_take (i := 7) (v := ?_) rfl (by kernel_rfl) (by kernel_rfl) (by kernel_rfl) (fun _ _ _ h => h) (Or.inl ⟨by rfl, ?_⟩) (by assumption) ?_
        rotate_left
        · intro W0 hSw; obtain ⟨hSa, hSb⟩ := hSw; go_simp; all_goals (with_reducible rfl)
        try simp only [Act.put, List.getElem_toArray, List.getElem_cons_succ, List.getElem_cons_zero, List.setIfInBounds_toArray, List.set_cons_zero, List.set_cons_succ]
        refine wpAnyH_take (i := 8) (v := ?_) rfl (by kernel_rfl) (by kernel_rfl) (by kernel_rfl) (fun _ _ _ h => h) (Or.inl ⟨by rfl, ?_⟩) (by assumption) ?_
        rotate_left
        · intro W0 hSw; obtain ⟨hSa, hSb⟩ := hSw; go_simp; all_goals (with_reducible rfl)
        try simp only [Act.put, List.getElem_toArray, List.getElem_cons_succ, List.getElem_cons_zero, List.setIfInBounds_toArray, List.set_cons_zero, List.set_cons_succ]
        refine wpAnyH_take (i := 9) (v := ?_) rfl (by kernel_rfl) (by kernel_rfl) (by kernel_rfl) (fun _ _ _ h => h) (Or.inl ⟨by rfl, ?_⟩) (by assumption) ?_
        rotate_left
        · intro W0 hSw; obtain ⟨hSa, hSb⟩ := hSw; go_simp; all_goals (with_reducible rfl)
        try simp only [Act.put, List.getElem_toArray, List.getElem_cons_succ, List.getElem_cons_zero, List.setIfInBounds_toArray, List.set_cons_zero, List.set_cons_succ]
        refine wpAnyH_take (i := 10) (v := ?_) rfl (by kernel_rfl) (by kernel_rfl) (by kernel_rfl) (fun _ _ _ h => h) (Or.inl ⟨by rfl, ?_⟩) (by assumption) ?_
        rotate_left
        · intro W0 hSw; obtain ⟨hSa, hSb⟩ := hSw; go_simp; all_goals (with_reducible rfl)
        try simp only [Act.put, List.getElem_toArray, List.getElem_cons_succ, List.getElem_cons_zero, List.setIfInBounds_toArray, List.set_cons_zero, List.set_cons_succ]
        refine wpAnyH_take (i := 11) (v := ?_) rfl (by kernel_rfl) (by kernel_rfl) (by kernel_rfl) (fun _ _ _ h => h) (Or.inl ⟨by rfl, ?_⟩) (by assumption) ?_
        rotate_left
        · intro W0 hSw; obtain ⟨hSa, hSb⟩ := hSw; go_simp; all_goals (with_reducible rfl)
        try simp only [Act.put, List.getElem_toArray, List.getElem_cons_succ, List.getElem_cons_zero, List.setIfInBounds_toArray, List.set_cons_zero, List.set_cons_succ]
        refine wpAnyH_take (i := 12) (v := ?_) rfl (by kernel_rfl) (by kernel_rfl) (by kernel_rfl) (fun _ _ _ h => h) (Or.inl ⟨by rfl, ?_⟩) (by assumption) ?_
        rotate_left
        · intro W0 hSw; obtain ⟨hSa, hSb⟩ := hSw; go_simp; all_goals (with_reducible rfl)
        try simp only [Act.put, List.getElem_toArray, List.getElem_cons_succ, List.getElem_cons_zero, List.setIfInBounds_toArray, List.set_cons_zero, List.set_cons_succ]
        refine wpAnyH_take (i := 13) (v := ?_) rfl (by kernel_rfl) (by kernel_rfl) (by kernel_rfl) (fun _ _ _ h => h) (Or.inl ⟨by rfl, ?_⟩) (by assumption) ?_
        rotate_left
        · intro W0 hSw; obtain ⟨hSa, hSb⟩ := hSw; go_simp; all_goals (with_reducible rfl)
        try simp only [Act.put, List.getElem_toArray, List.getElem_cons_succ, List.getElem_cons_zero, List.setIfInBounds_toArray, List.set_cons_zero, List.set_cons_succ]
        refine wpAnyH_ready (rs := [14]) (by kernel_rfl) (by simp) ?_
        refine AllReadyH.cons rfl (fun K hK => ?_) AllReadyH.nil
        go_simp
        go_wp2_with (go_at_call 20; (refine (A2.out _ hHeld.1).mono ?_); rintro e wA1 ⟨pwA1, cwA1, rfl, vwA1, bwA1, ywA1, zwA1⟩)
        have hC := hHeld.2.trans (ywA1.mono hHeld.2.size)
        refine hK.out _ _ ?_ (fun hHeld2 => ?_)
        · exact ⟨bwA1, hC⟩
        clear hK K hHeld hHeld2
        have hHeld : Below w5.heap.size w5 wA1 ∧ Below wA1.heap.size wA1 wA1 := ⟨bwA1, zwA1⟩
        refine held_mono (S' := fun W => Below w5.heap.size w5 W ∧ Below wA1.heap.size wA1 W) (fun W hW => ⟨hW.1, hC.trans (hW.2.mono hC.size)⟩) _ _ _ _ ?_
        clear hC
        refine wpAnyH_take (i := 15) (v := ?_) rfl (by kernel_rfl) (by kernel_rfl) (by kernel_rfl) (fun _ _ _ h => h) (Or.inl ⟨by rfl, ?_⟩) (by assumption) ?_
        rotate_left
        · intro W0 hSw; obtain ⟨hSa, hSb⟩ := hSw; go_simp; all_goals (with_reducible rfl)
        try simp only [Act.put, List.getElem_toArray, List.getElem_cons_succ, List.getElem_cons_zero, List.setIfInBounds_toArray, List.set_cons_zero, List.set_cons_succ]
        refine wpAnyH_take (i := 16) (v := ?_) rfl (by kernel_rfl) (by kernel_rfl) (by kernel_rfl) (fun _ _ _ h => h) (Or.inl ⟨by rfl, ?_⟩) (by assumption) ?_
        rotate_left
        · intro W0 hSw; obtain ⟨hSa, hSb⟩ := hSw; go_simp; all_goals (with_reducible rfl)
        try simp only [Act.put, List.getElem_toArray, List.getElem_cons_succ, List.getElem_cons_zero, List.setIfInBounds_toArray, List.set_cons_zero, List.set_cons_succ]
        refine wpAnyH_take (i := 17) (v := ?_) rfl (by kernel_rfl) (by kernel_rfl) (by kernel_rfl) (fun _ _ _ h => h) (Or.inl ⟨by rfl, ?_⟩) (by assumption) ?_
        rotate_left
        · intro W0 hSw; obtain ⟨hSa, hSb⟩ := hSw; go_simp; all_goals (with_reducible rfl)
        try simp only [Act.put, List.getElem_toArray, List.getElem_cons_succ, List.getElem_cons_zero, List.setIfInBounds_toArray, List.set_cons_zero, List.set_cons_succ]
        refine wpAnyH_take (i := 18) (v := ?_) rfl (by kernel_rfl) (by kernel_rfl) (by kernel_rfl) (fun _ _ _ h => h) (Or.inl ⟨by rfl, ?_⟩) (by assumption) ?_
        rotate_left
        · intro W0 hSw; obtain ⟨hSa, hSb⟩ := hSw; go_simp; all_goals (with_reducible rfl)
        try simp only [Act.put, List.getElem_toArray, List.getElem_cons_succ, List.getElem_cons_zero, List.setIfInBounds_toArray, List.set_cons_zero, List.set_cons_succ]
        refine wpAnyH_done (by kernel_rfl) ?_ _
        go_wp2_with fail
        go_ret
        exact ⟨rfl, HB.out.trans (hHeld.1.mono HB.out.size)⟩

end Go.Proofs.YtodpocciimbjbaaDoor.sortedTies
