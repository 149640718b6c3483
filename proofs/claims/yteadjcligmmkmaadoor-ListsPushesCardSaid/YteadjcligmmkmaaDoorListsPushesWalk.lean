/-
  ListsPushes: several texts that are put at once are put as one by one; those put ahead are those put behind, the other way about.
-/
import Derived.Test.YteadjcligmmkmaaDoorLisLaw
import Derived.Test.YteadjcligmmkmaaDoorRefVal3
import Derived.Deep.QuietTactic
import Derived.Deep.DeepCutAuto
import Derived.BigQuiet
import Derived.StillTailTactics
import Derived.Deep.RegionLaw
namespace Go.Proofs.YteadjcligmmkmaaDoor.listsPushes
open Go.RowKit Kit StrT RowG BOrd ValT StoT ReplyT ReplyMath ValM BytesIn DoT Low MapT LstT LisT NumL NumW NumMath ReplyM LisM SaidT RefR DoV LisL
set_option linter.unusedVariables false
set_option maxRecDepth 100000
-- ASKS: NumL.Gd


theorem same_self (d : V) : sameB d d = true := decide_eq_true rfl
theorem push_one (N : List (List UInt8)) (j : Nat) (hj : j < N.length) (x : List UInt8) (hx : x = wd N j) : (rowD 0 (N.take j).reverse [x]).1 = (N.take (j + 1)).reverse := by
  subst hx
  show [wd N j].reverse ++ (N.take j).reverse = _
  rw [List.take_succ_eq_append_getElem hj, List.reverse_append, wd_at hj]
theorem push_all (N : List (List UInt8)) (n : Nat) (hn : N.length = n) : rowD 0 [] N = (N.reverse, int (n : Int)) ∧ rowD 1 [] N = (N, int (n : Int)) := by
  subst hn
  refine ⟨?_, ?_⟩
  · show (N.reverse ++ [], int ((N.length + ([] : List (List UInt8)).length : Nat) : Int)) = _
    rw [List.append_nil]
    rfl
  · show ([] ++ N, int ((([] : List (List UInt8)).length + N.length : Nat) : Int)) = _
    rw [List.nil_append, List.length_nil, Nat.zero_add]
theorem rev_wd (N : List (List UInt8)) (n j r : Nat) (hn : N.length = n) (hr : r + j + 1 = n) : wd N.reverse r = wd N j := by
  rw [wd_at (by simp; omega), wd_at (by omega), List.getElem_reverse]
  congr 1
  omega

set_option maxHeartbeats 16000000 in
theorem walk (q : Option Addr) (L : List (List UInt8)) (n c : Nat) (w : World) (hL : L.length = n) (h : StrT.Ss w q L) (hz : ∀ s ∈ L, s.length ≤ 140737488351232) (hcap : n ≤ c) (hcm : c ≤ 9223372036854775807) (hnil : q = none → c = 0) (hg : Gd w) :
    Calls Tryd.prog 6 #[.slice q n c] w fun e w' => e = .returned (.bool true) ∧ Below w.heap.size w w' := by
  have HG := Lib.hid (fun W (h : Below w.heap.size w W) => hg.keep h)
  have C0 := Lib.hid (shown_any w hg)
  obtain ⟨m, hm⟩ : ∃ m : Nat, m = min n 10 := ⟨_, rfl⟩
  have hmin : min (n : Int) 10 = (m : Int) := by omega
  have hm10 : m ≤ 10 := by omega
  have sl := fun W => sl_take q n c m (by omega) W
  have HMl := Lib.hid (show (L.take m).length = m by rw [List.length_take, hL]; omega)
  have HMs := Lib.hid (fun W (hW : Below w.heap.size w W) => rs_ss.2 ((h.keep hW).take m))
  have HNl := Lib.hid hnil
  have hnz : (n : Int) ≤ 9223372036854775807 := by omega
  clear h hz hg hnil hL hm
  generalize L.take m = M at HMl HMs
  clear hcm
  go_enter Tryd.func6, Tryd.ntmps6
  go_wp2_with fail
  with_reducible refine C0.out.mono ?_
  rintro e w1 ⟨rfl, hb1⟩
  have HB1 := Lib.hid hb1
  have hba := Kit.below1 w1 (.cells #[] 9)
  have HO1 := Lib.hid (ownR_new strE w1.heap.size w1 w1.heap.size rfl (Nat.le_refl _))
  have HBa := Lib.hid hba
  have HMa := Lib.hid (HMs.out _ (hb1.trans (hba.mono hb1.size)))
  clear hb1 hba C0
  go_upto_if 23 with (at_builtin; refine wpList_append_rs strE (w0 := w1) rfl (.tmp 14) (.tmp 19) rfl (.slice (some ⟨w1.heap.size, 0, none⟩) 0 0) [] rfl HO1.out HBa.out q M m c rfl HMl.out HMa.out HNl.out (by simp; omega) M rfl ?_; intro v2 w2 ho2 hb2; obtain ⟨q2, c2, rfl, hs2⟩ := SR.of ho2; rw [HMl.out] at hs2 ⊢)
  have HS2 := Lib.hid hs2
  have HB2 := Lib.hid (HB1.out.trans (hb2.mono HB1.out.size))
  clear ho2 hb2 hs2 HO1 HBa HMa HB1 HMs HNl sl hmin
  go_cut [4] (fun v wx => ∃ (q4 : Option Addr) (n4 c4 : Nat) (N : List (List UInt8)), v = .slice q4 n4 c4 ∧ 0 < n4 ∧ n4 ≤ 10 ∧ Hid (SR wx q4 n4 c4 N) ∧ Hid (Below w.heap.size w wx))
  case first =>
    rcases Nat.eq_zero_or_pos m with h0 | h0
    · subst h0
      have HS3 := Lib.hid (show SR (w2.alloc (.cells #[.string ⟨#[120]⟩] 9)) (some ⟨w2.heap.size, 0, none⟩) 1 1 [[120]] from ⟨rfl, by decide, by decide, (fun h => by cases h), ss1_new w2 ⟨#[120]⟩⟩)
      have HB3 := Lib.hid (HB2.out.alloc HB2.out.size (.cells #[.string ⟨#[120]⟩] 9))
      go_wp2_with fail
      go_meet
      exact ⟨_, 1, 1, _, rfl, by decide, by decide, HS3, HB3⟩
    · have tz : ((m : Int) == 0) = false := by rw [beq_eq_false_iff_ne]; omega
      go_wp2_with fail
      go_meet
      exact ⟨_, m, c2, M, rfl, h0, hm10, HS2, HB2⟩
  case rest =>
  clear HS2 HB2 HMl hm10
  obtain ⟨q4, n4, c4, N, rfl, hn0, hn10, HS, HB⟩ := hcut
  rename World => w3
  have HV := Lib.hid (VB.new (pv0_in w3))
  dsimp only [pv0] at HV
  have hb4 := Kit.below1 w3 (.cells #[.int .u8 0, .string ⟨#[]⟩, .slice none 0 0, .slice none 0 0, .slice none 0 0] 26)
  have HBx := Lib.hid hb4
  have HS3 := Lib.hid (fun W (hW : Below w3.heap.size w3 W) => HS.out.keep hW)
  clear hb4
  go_wp2_with fail
  generalize hg5 : w3.heap.size = g5 at HV ⊢
  have HG5 := Lib.hid (show w3.heap.size ≤ g5 by omega)
  clear hg5
  generalize w3.alloc (.cells #[.int .u8 0, .string ⟨#[]⟩, .slice none 0 0, .slice none 0 0, .slice none 0 0] 26) = w4 at HV HBx ⊢
  have HLn := Lib.hid HS.out.ln
  go_loopw [6] (fun i wr => ∃ (j : Nat) (p : PV), j ≤ n4 ∧ i = .int .i64 j ∧ Hid (p.d = listV (N.take j).reverse) ∧ Hid (VB wr g5 p) ∧ Hid (Below w3.heap.size w3 wr)) (fun i _ => n4 - (intOf i).toNat)
  case atStart => exact ⟨0, pv0, Nat.zero_le _, rfl, Lib.hid rfl, HV, HBx⟩
  case round =>
    clear HV HBx
    obtain ⟨j, p, hj, rfl, HD0, HV, HBx⟩ := hrel
    obtain ⟨k0, S0, ql0, nl0, cl0, qh0, nh0, ch0, qz0, nz0, cz0, d0⟩ := p
    by_cases hlt : j < n4
    · have t1 : decide ((j : Int) < (n4 : Int)) = true := decide_eq_true (by omega)
      have hj0 : (0 : Int) ≤ (j : Int) := by omega
      have hjn : (j : Int) < (n4 : Int) := by omega
      obtain ⟨X, hX⟩ := str_ex (wd N j)
      obtain ⟨b, off, rfl, hbl, hc⟩ := SR.at_ (HS3.out _ HBx.out) j hlt X hX
      have hu := hc wr.drew (Below.refl _ _).drew
      have HX := Lib.hid hX
      have C1 := Lib.hid (fun (W Y : World) (g : Nat) (hY : Below (W.alloc (.cells #[.string ⟨#[108, 112, 117, 115, 104]⟩, .string ⟨#[107]⟩, .string X] 9)).heap.size (W.alloc (.cells #[.string ⟨#[108, 112, 117, 115, 104]⟩, .string ⟨#[107]⟩, .string X] 9)) Y) (hgw : g = W.heap.size) (hW : Below w.heap.size w W) (hpv : PV.In W ⟨k0, S0, ql0, nl0, cl0, qh0, nh0, ch0, qz0, nz0, cz0, d0⟩) (hdv : PV.d ⟨k0, S0, ql0, nl0, cl0, qh0, nh0, ch0, qz0, nz0, cz0, d0⟩ = listV ((N.take j).reverse)) => (show Calls Tryd.prog 12 #[.agg #[.int .u8 k0, .string S0, .slice ql0 nl0 cl0, .slice qh0 nh0 ch0, .slice qz0 nz0 cz0], .slice (some ⟨g, 0, none⟩) 3 3] Y (DoN (listV ((N.take (j + 1)).reverse)) ((rowD 0 (N.take j).reverse [X.data.toList]).2) W) from by subst hgw; exact don_to (by rw [← push_one N j (by rw [HLn.out]; exact hlt) _ HX.out]) (on3 0 (by decide) ⟨#[108, 112, 117, 115, 104]⟩ ⟨#[107]⟩ X (by decide) (by decide) (by decide) ⟨k0, S0, ql0, nl0, cl0, qh0, nh0, ch0, qz0, nz0, cz0, d0⟩ ((N.take j).reverse) W Y hY hpv hdv (HG.out W hW) (tame0 (by simp; have := HLn.out; omega)))))
      obtain ⟨-, -, a0, a1, a2, a3, a4⟩ := HV.out.room
      dsimp only at a0 a1 a2 a3 a4
      have hr2 := HV.out.keep (Kit.below1 wr (.cells #[.string ⟨#[108, 112, 117, 115, 104]⟩, .string ⟨#[107]⟩, .string X] 9))
      obtain ⟨-, -, b0, b1, b2, b3, b4⟩ := hr2.room
      dsimp only at b0 b1 b2 b3 b4
      clear hr2
      have HBw := Lib.hid (HB.out.trans (HBx.out.mono HB.out.size))
      have HG6 := Lib.hid HV.out.lt
      clear hX hbl hc
      go_wp2_with fail
      go_region_law (first
        | (go_simp; (with_reducible refine (C1.out wr _ _ (by first | exact Below.refl _ _ | exact (Below.refl _ _).drew) rfl HBw.out HV.out.pv HD0.out).mono ?_); rintro e w5 ⟨p1, vr1, rfl, hI, hd, hn, hA, hb⟩; obtain ⟨k1, S1, ql1, nl1, cl1, qh1, nh1, ch1, qz1, nz1, cz1, d1⟩ := p1; dsimp only [PV.agg]
           have hb5 : Below wr.heap.size wr w5 := hb
           have HI5 := Lib.hid hI
           have HD5 := Lib.hid (show d1 = _ from hd)
           have HV5 := Lib.hid (HV.out.keep hb5)
           have HB5 := Lib.hid (HBx.out.trans (hb5.mono HBx.out.size))
           have HF5 := Lib.hid (show ∀ k, PV.at_ ⟨k1, S1, ql1, nl1, cl1, qh1, nh1, ch1, qz1, nz1, cz1, d1⟩ k → k ≠ g5 from fun k hk => by have : wr.heap.size ≤ k := hn k hk; have := HG6.out; omega)
           obtain ⟨-, -, c0, c1, c2, c3, c4⟩ := HV5.out.room
           dsimp only at c0 c1 c2 c3 c4
           have f0 := HV5.out.room.frz 0
           have f1 := HV5.out.room.frz 1
           have f2 := HV5.out.room.frz 2
           have f3 := HV5.out.room.frz 3
           have f4 := HV5.out.room.frz 4
           clear hI hd hn hA hb hb5))
      all_goals
        have HV6 := Lib.hid (VB.five HV5.out HI5.out HF5.out)
        have HB6 := Lib.hid (five_below HB5.out HG5.out (.int .u8 k1) (.string S1) (.slice ql1 nl1 cl1) (.slice qh1 nh1 ch1) (.slice qz1 nz1 cz1))
        dsimp only at HV6
        go_wp2_with fail
        go_roundw
        case rel => exact ⟨j + 1, ⟨k1, S1, ql1, nl1, cl1, qh1, nh1, ch1, qz1, nz1, cz1, d1⟩, by omega, by go_num, HD5, HV6, HB6⟩
        case measure => simp [intOf]; omega
    · obtain rfl : j = n4 := by omega
      have t1 : decide ((j : Int) < (j : Int)) = false := decide_eq_false (by omega)
      have HDo := Lib.hid (show d0 = listV N.reverse from by rw [show d0 = listV (N.take j).reverse from HD0.out, List.take_of_length_le (by rw [HLn.out]; exact Nat.le_refl _)])
      have HNl := Lib.hid (HS.out.nl)
      have HS4 := Lib.hid (HS3.out _ HBx.out)
      have HBw := Lib.hid (HB.out.trans (HBx.out.mono HB.out.size))
      clear hlt HD0 HS HB HBx HS3
      have HV0 := HV
      clear HV
      obtain ⟨NR, HNR⟩ : ∃ NR, Hid ((int (j : Int)).length = NR) := ⟨_, Lib.hid rfl⟩
      obtain ⟨XR, HXR⟩ : ∃ XR : ByteArray, Hid (XR.data.toList = int (j : Int)) := ⟨⟨(int (j : Int)).toArray⟩, Lib.hid rfl⟩
      obtain ⟨nz, hnz⟩ : ∃ nz, nz = 2 + j := ⟨_, rfl⟩
      have hnzb : nz ≤ 12 := by omega
      have HNz := Lib.hid hnz
      clear hnz
      have hba := Kit.below1 wr (.cells #[.string ⟨#[108, 112, 117, 115, 104]⟩, .string ⟨#[107]⟩] 9)
      have HLt := Lib.hid (lit2 wr ⟨#[108, 112, 117, 115, 104]⟩ ⟨#[107]⟩)
      have HBl := Lib.hid hba
      have HSa := Lib.hid (rs_ss.2 (HS4.out.keep hba).ss)
      clear hba
      obtain ⟨Z, hZ⟩ : ∃ Z : List (List UInt8), Z = [(⟨#[108, 112, 117, 115, 104]⟩ : ByteArray).data.toList, (⟨#[107]⟩ : ByteArray).data.toList] ++ N := ⟨_, rfl⟩
      have HZl := Lib.hid (show Z.length = nz by rw [hZ, HNz.out]; simp; have := HLn.out; omega)
      have CP := Lib.hid (fun (W : World) (qz6 : Option Addr) (cz6 : Nat) (hs : SR W qz6 nz cz6 Z) (hW : Below w.heap.size w W) => (show Calls Tryd.prog 12 #[.agg #[.int .u8 0, .string ⟨#[]⟩, .slice none 0 0, .slice none 0 0, .slice none 0 0], .slice qz6 nz cz6] W (DoN (listV (N.reverse)) (int (j : Int)) W) from don_to (push_all N j HLn.out).1 (onR 0 (by decide) pv0 [] ⟨#[108, 112, 117, 115, 104]⟩ ⟨#[107]⟩ N qz6 nz cz6 W (pv0_in W) rfl (HG.out W hW) (by rw [HNz.out, HLn.out]) hs.nc (by rw [HNz.out]; show 3 ≤ _; omega) (by have := hs.ss; rw [hZ] at this; exact this) (by decide) (by decide) (tame0 (by have := HLn.out; simp; omega)))))
      have HZ := Lib.hid hZ
      clear hZ
      go_wp2_with (at_builtin; refine wpList_append_rs strE (w0 := wr) rfl (.tmp 44) (.tmp 45) rfl (.slice (some ⟨wr.heap.size, 0, none⟩) 2 2) _ rfl HLt.out HBl.out q4 N j c4 rfl HLn.out HSa.out HNl.out (by simp; omega) Z HZ.out ?_; intro v6 w5 ho6 hb6; obtain ⟨q6, c6, rfl, hs6⟩ := SR.of ho6; rw [HZl.out] at hs6 ⊢)
      with_reducible refine (CP.out w5 q6 c6 hs6 (HBw.out.trans (hb6.mono HBw.out.size))).mono ?_
      rintro e w6 ⟨p1, vr1, rfl, hI, hd, hn, hA, hb⟩
      obtain ⟨k1, S1, ql1, nl1, cl1, qh1, nh1, ch1, qz1, nz1, cz1, d1⟩ := p1
      dsimp only [PV.agg]
      have hn : ∀ k, PV.at_ ⟨k1, S1, ql1, nl1, cl1, qh1, nh1, ch1, qz1, nz1, cz1, d1⟩ k → wr.heap.size ≤ k := fun k hk => Nat.le_trans hb6.size (hn k hk)
      have hb := hb6.trans (hb.mono hb6.size)
      clear hs6 ho6 hb6 CP HZ HZl HLt HBl HSa
      obtain ⟨qr1, cr1, rfl, hv1⟩ := ans_text hA NR HNR.out XR HXR.out
      have hbn := hb.trans ((Kit.below1 w6 (.cells #[.int .u8 k1, .string S1, .slice ql1 nl1 cl1, .slice qh1 nh1 ch1, .slice qz1 nz1 cz1] 26)).mono hb.size)
      have HV0 := Lib.hid (HV0.out.keep hbn)
      have HS4 := Lib.hid (HS4.out.keep hbn)
      have HBw := Lib.hid (HBw.out.trans (hbn.mono HBw.out.size))
      have HV1 := Lib.hid (show VB _ w6.heap.size ⟨k1, S1, ql1, nl1, cl1, qh1, nh1, ch1, qz1, nz1, cz1, d1⟩ from VB.new hI)
      have HD1 := Lib.hid (show PV.d ⟨k1, S1, ql1, nl1, cl1, qh1, nh1, ch1, qz1, nz1, cz1, d1⟩ = _ from hd)
      have hbx := Kit.below1 w6 (.cells #[.int .u8 k1, .string S1, .slice ql1 nl1 cl1, .slice qh1 nh1 ch1, .slice qz1 nz1 cz1] 26)
      have HC1 := Lib.hid (fun W hW => hv1 W (hbx.trans (Below.mono hW hbx.size)))
      clear hbx
      have HN1 := Lib.hid (show ∀ k, PV.at_ ⟨k1, S1, ql1, nl1, cl1, qh1, nh1, ch1, qz1, nz1, cz1, d1⟩ k → wr.heap.size ≤ k from hn)
      have HL1 := Lib.hid (show wr.heap.size ≤ w6.heap.size from Below.size hb)
      clear hI hd hn hA hb hbn hv1
      go_upto_region 11 with fail
      generalize hgg : w6.heap.size = g1 at HV1 HL1 ⊢
      clear hgg
      generalize w6.alloc (.cells #[.int .u8 k1, .string S1, .slice ql1 nl1 cl1, .slice qh1 nh1 ch1, .slice qz1 nz1 cz1] 26) = w7 at HV1 HV0 HS4 HBw HC1 ⊢
      have hba := Kit.below1 w7 (.cells #[.string ⟨#[114, 112, 117, 115, 104]⟩, .string ⟨#[107]⟩] 9)
      have HLt := Lib.hid (lit2 w7 ⟨#[114, 112, 117, 115, 104]⟩ ⟨#[107]⟩)
      have HBl := Lib.hid hba
      have HSa := Lib.hid (rs_ss.2 (HS4.out.keep hba).ss)
      clear hba
      obtain ⟨Z, hZ⟩ : ∃ Z : List (List UInt8), Z = [(⟨#[114, 112, 117, 115, 104]⟩ : ByteArray).data.toList, (⟨#[107]⟩ : ByteArray).data.toList] ++ N := ⟨_, rfl⟩
      have HZl := Lib.hid (show Z.length = nz by rw [hZ, HNz.out]; simp; have := HLn.out; omega)
      have CP := Lib.hid (fun (W : World) (qz6 : Option Addr) (cz6 : Nat) (hs : SR W qz6 nz cz6 Z) (hW : Below w.heap.size w W) => (show Calls Tryd.prog 12 #[.agg #[.int .u8 0, .string ⟨#[]⟩, .slice none 0 0, .slice none 0 0, .slice none 0 0], .slice qz6 nz cz6] W (DoN (listV (N)) (int (j : Int)) W) from don_to (push_all N j HLn.out).2 (onR 1 (by decide) pv0 [] ⟨#[114, 112, 117, 115, 104]⟩ ⟨#[107]⟩ N qz6 nz cz6 W (pv0_in W) rfl (HG.out W hW) (by rw [HNz.out, HLn.out]) hs.nc (by rw [HNz.out]; show 3 ≤ _; omega) (by have := hs.ss; rw [hZ] at this; exact this) (by decide) (by decide) (tame1 (by have := HLn.out; simp; omega)))))
      have HZ := Lib.hid hZ
      clear hZ
      go_wp2_with (at_builtin; refine wpList_append_rs strE (w0 := w7) rfl (.tmp 52) (.tmp 53) rfl (.slice (some ⟨w7.heap.size, 0, none⟩) 2 2) _ rfl HLt.out HBl.out q4 N j c4 rfl HLn.out HSa.out HNl.out (by simp; omega) Z HZ.out ?_; intro v6 w5 ho6 hb6; obtain ⟨q6, c6, rfl, hs6⟩ := SR.of ho6; rw [HZl.out] at hs6 ⊢)
      with_reducible refine (CP.out w5 q6 c6 hs6 (HBw.out.trans (hb6.mono HBw.out.size))).mono ?_
      rintro e w8 ⟨p2, vr2, rfl, hI, hd, hn, hA, hb⟩
      obtain ⟨k2, S2, ql2, nl2, cl2, qh2, nh2, ch2, qz2, nz2, cz2, d2⟩ := p2
      dsimp only [PV.agg]
      have hn : ∀ k, PV.at_ ⟨k2, S2, ql2, nl2, cl2, qh2, nh2, ch2, qz2, nz2, cz2, d2⟩ k → w7.heap.size ≤ k := fun k hk => Nat.le_trans hb6.size (hn k hk)
      have hb := hb6.trans (hb.mono hb6.size)
      clear hs6 ho6 hb6 CP HZ HZl HLt HBl HSa
      obtain ⟨qr2, cr2, rfl, hv2⟩ := ans_text hA NR HNR.out XR HXR.out
      have hbn := hb.trans ((Kit.below1 w8 (.cells #[.int .u8 k2, .string S2, .slice ql2 nl2 cl2, .slice qh2 nh2 ch2, .slice qz2 nz2 cz2] 26)).mono hb.size)
      have HV0 := Lib.hid (HV0.out.keep hbn)
      have HS4 := Lib.hid (HS4.out.keep hbn)
      have HV1 := Lib.hid (HV1.out.keep hbn)
      have HC1 := Lib.hid (fun W hW => HC1.out W (hbn.trans (Below.mono hW hbn.size)))
      have HBw := Lib.hid (HBw.out.trans (hbn.mono HBw.out.size))
      have HV2 := Lib.hid (show VB _ w8.heap.size ⟨k2, S2, ql2, nl2, cl2, qh2, nh2, ch2, qz2, nz2, cz2, d2⟩ from VB.new hI)
      have HD2 := Lib.hid (show PV.d ⟨k2, S2, ql2, nl2, cl2, qh2, nh2, ch2, qz2, nz2, cz2, d2⟩ = _ from hd)
      have hbx := Kit.below1 w8 (.cells #[.int .u8 k2, .string S2, .slice ql2 nl2 cl2, .slice qh2 nh2 ch2, .slice qz2 nz2 cz2] 26)
      have HC2 := Lib.hid (fun W hW => hv2 W (hbx.trans (Below.mono hW hbx.size)))
      clear hbx
      have HN2 := Lib.hid (show ∀ k, PV.at_ ⟨k2, S2, ql2, nl2, cl2, qh2, nh2, ch2, qz2, nz2, cz2, d2⟩ k → w7.heap.size ≤ k from hn)
      have HL2 := Lib.hid (show w7.heap.size ≤ w8.heap.size from Below.size hb)
      clear hI hd hn hA hb hbn hv2
      go_upto_region 12 with fail
      generalize hgg : w8.heap.size = g2 at HV2 HL2 ⊢
      clear hgg
      generalize w8.alloc (.cells #[.int .u8 k2, .string S2, .slice ql2 nl2 cl2, .slice qh2 nh2 ch2, .slice qz2 nz2 cz2] 26) = w9 at HV2 HV0 HS4 HV1 HC1 HBw HC2 ⊢
      obtain ⟨-, -, ra0, ra1, ra2, ra3, ra4⟩ := HV0.out.room
      dsimp only at ra0 ra1 ra2 ra3 ra4
      obtain ⟨-, -, rb0, rb1, rb2, rb3, rb4⟩ := HV1.out.room
      dsimp only at rb0 rb1 rb2 rb3 rb4
      have CS := Lib.hid (RefV.rsame k0 S0 ql0 nl0 cl0 qh0 nh0 ch0 qz0 nz0 cz0 d0 k1 S1 ql1 nl1 cl1 qh1 nh1 ch1 qz1 nz1 cz1 d1 w9 HV0.out.pv HV1.out.pv)
      rw [show sameB d0 d1 = true by rw [show d0 = _ from HDo.out, show d1 = _ from HD1.out]; exact same_self _] at CS
      go_wp2_with fail
      with_reducible refine CS.out.mono ?_
      rintro e w10 ⟨rfl, hb⟩
      have HV1 := Lib.hid (HV1.out.keep hb)
      have HV2 := Lib.hid (HV2.out.keep hb)
      have HS4 := Lib.hid (HS4.out.keep hb)
      have HBw := Lib.hid (HBw.out.trans (hb.mono HBw.out.size))
      have hc1 := HC1.out _ hb
      have hc2 := HC2.out _ hb
      have HR1 := Lib.hid (VB.sr HV1.out HD1.out)
      have HR2 := Lib.hid (VB.sr HV2.out HD2.out)
      dsimp only at HR1 HR2
      obtain rfl : j = nl1 := by have := HR1.out.ln; have := HLn.out; simp at *; omega
      obtain rfl : j = nl2 := by have := HR2.out.ln; have := HLn.out; omega
      clear CS hb HC1 HC2 HV0 HDo HD1 HD2 HNR HXR ra0 ra1 ra2 ra3 ra4 rb0 rb1 rb2 rb3 rb4
      obtain ⟨-, -, ra0, ra1, ra2, ra3, ra4⟩ := HV2.out.room
      dsimp only at ra0 ra1 ra2 ra3 ra4
      go_wp2_with fail
      clear ra0 ra1 ra2 ra3 ra4
      clear hc1 hc2
      have HBz := Lib.hid (Below.refl w10.heap.size w10)
      go_loopw [12] (fun i wr => ∃ x : Nat, x ≤ j ∧ i = .int .i64 x ∧ Hid (Below w10.heap.size w10 wr)) (fun i _ => j - (intOf i).toNat)
      case atStart => exact ⟨0, Nat.zero_le _, rfl, HBz⟩
      case round =>
        clear HBz
        obtain ⟨x, hx, rfl, HBz⟩ := hrel
        by_cases hlt : x < j
        · have t2 : decide ((x : Int) < (j : Int)) = true := decide_eq_true (by omega)
          have hx0 : (0 : Int) ≤ (x : Int) := by omega
          have hxj : (x : Int) < (j : Int) := by omega
          obtain ⟨r, hr⟩ : ∃ r : Nat, r = j - 1 - x := ⟨_, rfl⟩
          obtain ⟨Y, hY⟩ := str_ex (wd N x)
          have hY2 : Y.data.toList = wd N.reverse r := by rw [hY]; exact (rev_wd N j x r HLn.out (by omega)).symm
          obtain ⟨b0, o0, rfl, hl0, hc0⟩ := SR.at_ HS4.out x hlt Y hY
          obtain ⟨b1, o1, rfl, hl1, hc1⟩ := SR.at_ HR1.out r (by omega) Y hY2
          obtain ⟨b2, o2, rfl, hl2, hc2⟩ := SR.at_ HR2.out x hlt Y hY
          have u0 := hc0 _ HBz.out
          have u1 := hc1 _ HBz.out
          have u2 := hc2 _ HBz.out
          have ix1 := fun W => ix_at b1 o1 j cl1 r ((j : Int) - 1 - (x : Int)) (by omega) (by omega) W
          have HV1r := Lib.hid (HV1.out.keep HBz.out)
          have HV2r := Lib.hid (HV2.out.keep HBz.out)
          obtain ⟨-, -, ra0, ra1, ra2, ra3, ra4⟩ := HV1r.out.room
          dsimp only at ra0 ra1 ra2 ra3 ra4
          obtain ⟨-, -, rb0, rb1, rb2, rb3, rb4⟩ := HV2r.out.room
          dsimp only at rb0 rb1 rb2 rb3 rb4
          clear hY hY2 hl0 hl1 hl2 hc0 hc1 hc2 hr
          go_wp2_with fail
          go_quiet (fail)
          have HBn := Lib.hid (below_drewN HBz.out nq)
          go_wp2_with fail
          go_roundw
          case rel => exact ⟨x + 1, by omega, by go_num, HBn⟩
          case measure => simp [intOf]; omega
        · obtain rfl : x = j := by omega
          have t2 : decide ((x : Int) < (x : Int)) = false := decide_eq_false (by omega)
          go_wp2_with fail
          go_ret
          exact ⟨rfl, HBw.out.trans (HBz.out.mono HBw.out.size)⟩

end Go.Proofs.YteadjcligmmkmaaDoor.listsPushes
