/-
  SetsTurns: texts make the same set in whichever order, and however often, they are put in; as many are counted; taken out in any order none is left.
-/
import Derived.Test.YtmdkegamfjkfbaaDoorSetsTurnsLoop
import Derived.Test.YtmdkegamfjkfbaaDoorRefVal3
import Derived.Test.YtmdkegamfjkfbaaDoorRefTexts
import Derived.Test.YtmdkegamfjkfbaaDoorRefInt
import Derived.Deep.QuietTactic
import Derived.Deep.DeepCutAuto
import Derived.BigQuiet
import Derived.StillTailTactics
import Derived.Deep.RegionLaw
namespace Go.Proofs.YtmdkegamfjkfbaaDoor.setsTurns
open Go.RowKit Kit StrT RowG BOrd ValT StoT ReplyT ReplyMath ValM BytesIn DoT Low SetT NumL NumMath SetM SaidT RefR DoV LawK SetL RefV
set_option linter.unusedVariables false
set_option maxRecDepth 100000
-- ASKS: NumL.Gt


theorem same_self (d : V) : sameB d d = true := decide_eq_true rfl
theorem put_flat (vl : Nat → List UInt8) (I : List Nat) (hI : I.length ≤ 10) (h : ∀ i, (vl i).length ≤ 20) : (∀ s ∈ putT vl I, s.length ≤ 20) ∧ (putT vl I).flatten.length ≤ 200 := by
  have h1 : ∀ s ∈ putT vl I, s.length ≤ 20 := fun s hs => by
    obtain ⟨i, -, rfl⟩ := (put_mem vl I s).1 hs
    exact h i
  have h2 : ∀ (L : List (List UInt8)), (∀ s ∈ L, s.length ≤ 20) → L.flatten.length ≤ L.length * 20 := fun L => by
    induction L with
    | nil => intro _; simp
    | cons x L ih =>
      intro hL
      have h3 := ih (fun s hs => hL s (List.mem_cons_of_mem _ hs))
      have h4 := hL x List.mem_cons_self
      simp only [List.flatten_cons, List.length_append, List.length_cons]
      omega
  refine ⟨h1, ?_⟩
  have h3 := h2 _ h1
  have h4 := put_len vl I
  omega

set_option maxHeartbeats 16000000 in
theorem walk (q : Option Addr) (L : List (List UInt8)) (n c : Nat) (a : Int) (w : World) (hL : L.length = n) (h : StrT.Ss w q L) (hz : ∀ s ∈ L, s.length ≤ 140737488351232) (hcap : n ≤ c) (hcm : c ≤ 9223372036854775807) (hnil : q = none → c = 0) (a0 : 0 ≤ a) (a1 : a ≤ 255) (hg : Gt w) :
    Calls Tryd.prog 6 #[.slice q n c, .int .u8 a] w fun e w' => e = .returned (.bool true) ∧ Below w.heap.size w w' := by
  obtain ⟨an, rfl⟩ : ∃ an : Nat, a = (an : Int) := ⟨a.toNat, by omega⟩
  have HG := Lib.hid (fun W (h : Below w.heap.size w W) => hg.keep h)
  have C0 := Lib.hid (shown_any w hg)
  obtain ⟨m, hm⟩ : ∃ m : Nat, m = min n 10 := ⟨_, rfl⟩
  have hmin : min (n : Int) 10 = (m : Int) := by omega
  have hm8 : m ≤ 10 := by omega
  have hmn : m ≤ n := by omega
  have HLn := Lib.hid hL
  have HS := Lib.hid h
  have HZ := Lib.hid hz
  have HCm := Lib.hid hcm
  have HAn := Lib.hid (show an ≤ 255 by omega)
  have hnz : (n : Int) ≤ 9223372036854775807 := by omega
  clear h hz hg hL hnil hm hcm a0 a1
  go_enter Tryd.func6, Tryd.ntmps6
  go_wp2_with fail
  with_reducible refine C0.out.mono ?_
  rintro e w1 ⟨rfl, hb1⟩
  have HB := Lib.hid hb1
  have HV1 := Lib.hid (VB.new (pv0_in w1))
  have HV2 := Lib.hid (VB.new (pv0_in (w1.alloc (.cells #[.int .u8 0, .string ⟨#[]⟩, .slice none 0 0, .slice none 0 0, .slice none 0 0] 26))))
  have HB3 := Lib.hid (show Below w1.heap.size w1 (((w1.alloc (.cells #[.int .u8 0, .string ⟨#[]⟩, .slice none 0 0, .slice none 0 0, .slice none 0 0] 26)).alloc (.cells #[.int .u8 0, .string ⟨#[]⟩, .slice none 0 0, .slice none 0 0, .slice none 0 0] 26)).alloc (.cells #[] 9)) from (((Below.refl _ _).alloc (Nat.le_refl _) _).alloc (by simp) _).alloc (by simp; omega) _)
  have HA := Lib.hid (show VB (((w1.alloc (.cells #[.int .u8 0, .string ⟨#[]⟩, .slice none 0 0, .slice none 0 0, .slice none 0 0] 26)).alloc (.cells #[.int .u8 0, .string ⟨#[]⟩, .slice none 0 0, .slice none 0 0, .slice none 0 0] 26)).alloc (.cells #[] 9)) w1.heap.size pv0 from (HV1.out.keep (Kit.below1 _ _)).keep (Kit.below1 _ _))
  have HBb := Lib.hid (show VB (((w1.alloc (.cells #[.int .u8 0, .string ⟨#[]⟩, .slice none 0 0, .slice none 0 0, .slice none 0 0] 26)).alloc (.cells #[.int .u8 0, .string ⟨#[]⟩, .slice none 0 0, .slice none 0 0, .slice none 0 0] 26)).alloc (.cells #[] 9)) (w1.heap.size + 1) pv0 from by
    have := HV2.out.keep (Kit.below1 _ (.cells #[] 9))
    rw [show (w1.alloc (.cells #[.int .u8 0, .string ⟨#[]⟩, .slice none 0 0, .slice none 0 0, .slice none 0 0] 26)).heap.size = w1.heap.size + 1 by simp] at this
    exact this)
  have HBw := Lib.hid (HB.out.trans (HB3.out.mono HB.out.size))
  have HWs := Lib.hid HB.out.size
  clear hb1 C0 HV1 HV2 HB3 HB
  go_wp2_with fail
  rename_i K0 hK0
  refine loop1_any w _ q L n c m an w1.heap.size (w1.heap.size + 1) (w1.heap.size + 1 + 1) (fun i => (wd L i).take 20) HG.out HBw.out HLn.out hcap HCm.out HS.out HZ.out hmn hm8 HAn.out rfl HA.out HBb.out (by omega) HWs.out (Nat.le_succ_of_le HWs.out) (by omega) (by omega) _ ?_
  intro v10 v11 v12 v27 v28 v29 v30 v31 v32 v33 v34 v35 v36 v37 v38 v39 v40 v41 v42 v43 v44 v45 v46 v47 v48 v49 v50 v51 v52 v53 v54 v55 v56 v57 v58 v59 v60 v61 v62 v63 v64 v65 v66 v67 v68 v69 v70 v71 v72 v73 v74 v75 v76 wx qw nw cw p r hNw hSw hQw hDp hDr hVp hVr hRp hB
  refine hK0 _ _ ?_
  obtain ⟨vl, hvl⟩ : ∃ vl : Nat → List UInt8, vl = fun i => (wd L i).take 20 := ⟨_, rfl⟩
  rw [← hvl] at hNw hSw hDp hDr
  have HVl := Lib.hid hvl
  have HF := Lib.hid (put_flat vl (List.range m) (by simp; omega) (fun i => by rw [hvl]; show ((wd L i).take 20).length ≤ 20; rw [List.length_take]; omega))
  have HFl := Lib.hid (show (putT vl (List.range m)).length ≤ 10 from Nat.le_trans (put_len vl _) (by simp; omega))
  rw [rot_put] at hDr
  have HUp := Lib.hid (put_up vl (List.range m))
  clear hvl
  have HWg := Lib.hid (show w.heap.size ≤ w1.heap.size from HWs.out)
  generalize w1.heap.size = ga at hVp hVr hQw hRp HWg ⊢
  obtain ⟨k1, S1, ql1, nl1, cl1, qh1, nh1, ch1, qz1, nz1, cz1, d1⟩ := p
  obtain ⟨k2, S2, ql2, nl2, cl2, qh2, nh2, ch2, qz2, nz2, cz2, d2⟩ := r
  obtain ⟨F, hFe⟩ : ∃ F, F = putT vl (List.range m) := ⟨_, rfl⟩
  rw [← hFe] at hNw hSw HF HFl HUp
  have HFe := Lib.hid hFe
  have hDp : d1 = setV F := by rw [hFe]; exact hDp
  have hDr : d2 = setV F := by rw [hFe]; exact hDr
  have HDp := Lib.hid (show PV.d ⟨k1, S1, ql1, nl1, cl1, qh1, nh1, ch1, qz1, nz1, cz1, d1⟩ = setV F from hDp)
  have HVp := Lib.hid hVp
  have HB := Lib.hid hB
  have HSw := Lib.hid hSw
  have HNw := Lib.hid hNw
  have HQw := Lib.hid hQw
  have HRp := Lib.hid hRp
  have CS := Lib.hid (rsame k1 S1 ql1 nl1 cl1 qh1 nh1 ch1 qz1 nz1 cz1 d1 k2 S2 ql2 nl2 cl2 qh2 nh2 ch2 qz2 nz2 cz2 d2 wx hVp.pv hVr.pv)
  rw [show sameB d1 d2 = true by rw [hDp, hDr]; exact same_self _] at CS
  obtain ⟨-, -, ra0, ra1, ra2, ra3, ra4⟩ := HVp.out.room
  dsimp only at ra0 ra1 ra2 ra3 ra4
  have HVr := Lib.hid hVr
  obtain ⟨-, -, rb0, rb1, rb2, rb3, rb4⟩ := HVr.out.room
  dsimp only at rb0 rb1 rb2 rb3 rb4
  clear hDp hDr hVp hVr hB hSw hNw hQw hRp HVr HA HBb HBw HWs hK0 hFe hmin
  go_wp2_with fail
  clear ra0 ra1 ra2 ra3 ra4 rb0 rb1 rb2 rb3 rb4
  with_reducible refine CS.out.mono ?_
  rintro e w5 ⟨rfl, hb5⟩
  have HVp := Lib.hid (HVp.out.keep hb5)
  have HSw := Lib.hid (HSw.out.keep hb5)
  have HB := Lib.hid (HB.out.trans (hb5.mono HB.out.size))
  clear hb5 CS
  have HGl := Lib.hid HVp.out.lt
  obtain ⟨NT, HNT⟩ : ∃ NR, Hid ((texts F).length = NR) := ⟨_, Lib.hid rfl⟩
  obtain ⟨XT, HXT⟩ : ∃ XR : ByteArray, Hid (XR.data.toList = texts F) := ⟨⟨(texts F).toArray⟩, Lib.hid rfl⟩
  obtain ⟨NI, HNI⟩ : ∃ NR, Hid ((int (F.length : Int)).length = NR) := ⟨_, Lib.hid rfl⟩
  obtain ⟨XI, HXI⟩ : ∃ XR : ByteArray, Hid (XR.data.toList = int (F.length : Int)) := ⟨⟨(int (F.length : Int)).toArray⟩, Lib.hid rfl⟩
  have C1 := Lib.hid (fun (W Y : World) (g : Nat) (hY : Below (W.alloc (.cells #[.string ⟨#[115, 109, 101, 109, 98, 101, 114, 115]⟩, .string ⟨#[107]⟩] 9)).heap.size (W.alloc (.cells #[.string ⟨#[115, 109, 101, 109, 98, 101, 114, 115]⟩, .string ⟨#[107]⟩] 9)) Y) (hgw : g = W.heap.size) (hW : Below w.heap.size w W) (hpv : PV.In W ⟨k1, S1, ql1, nl1, cl1, qh1, nh1, ch1, qz1, nz1, cz1, d1⟩) (hdv : PV.d ⟨k1, S1, ql1, nl1, cl1, qh1, nh1, ch1, qz1, nz1, cz1, d1⟩ = setV (F)) => (show Calls Tryd.prog 11 #[.agg #[.int .u8 k1, .string S1, .slice ql1 nl1 cl1, .slice qh1 nh1 ch1, .slice qz1 nz1 cz1], .slice (some ⟨g, 0, none⟩) 2 2] Y (DoN (setV (F)) (texts F) W) from by subst hgw; exact don_to (rfl) (on2 3 (by decide) ⟨#[115, 109, 101, 109, 98, 101, 114, 115]⟩ ⟨#[107]⟩ (by decide) (by decide) (by decide) ⟨k1, S1, ql1, nl1, cl1, qh1, nh1, ch1, qz1, nz1, cz1, d1⟩ (F) W Y hY hpv hdv (HG.out W hW) (tame3 HUp.out (by have := HFl.out; omega) (by have := HF.out.2; omega)))))
  obtain ⟨-, -, ra0, ra1, ra2, ra3, ra4⟩ := HVp.out.room
  dsimp only at ra0 ra1 ra2 ra3 ra4
  go_wp2_with fail
  clear ra0 ra1 ra2 ra3 ra4
  with_reducible refine (C1.out w5 _ _ (Below.refl _ _) rfl HB.out HVp.out.pv HDp.out).mono ?_
  rintro e wa ⟨p3, vr3, rfl, hI, hd, hn, hA, hb⟩
  obtain ⟨k3, S3, ql3, nl3, cl3, qh3, nh3, ch3, qz3, nz3, cz3, d3⟩ := p3
  dsimp only [PV.agg]
  have HA3 := Lib.hid (hA.keep (Kit.below1 wa (.cells #[.int .u8 k3, .string S3, .slice ql3 nl3 cl3, .slice qh3 nh3 ch3, .slice qz3 nz3 cz3] 26)))
  obtain ⟨qr3, cr3, rfl, hv3⟩ := ans_text hA NT HNT.out XT HXT.out
  have hbn := hb.trans ((Kit.below1 wa (.cells #[.int .u8 k3, .string S3, .slice ql3 nl3 cl3, .slice qh3 nh3 ch3, .slice qz3 nz3 cz3] 26)).mono hb.size)
  have HVp := Lib.hid (HVp.out.keep hbn)
  have HSw := Lib.hid (HSw.out.keep hbn)
  have HB := Lib.hid (HB.out.trans (hbn.mono HB.out.size))
  have HV3 := Lib.hid (show VB _ wa.heap.size ⟨k3, S3, ql3, nl3, cl3, qh3, nh3, ch3, qz3, nz3, cz3, d3⟩ from VB.new hI)
  have HD3 := Lib.hid (show PV.d ⟨k3, S3, ql3, nl3, cl3, qh3, nh3, ch3, qz3, nz3, cz3, d3⟩ = _ from hd)
  have hbx := Kit.below1 wa (.cells #[.int .u8 k3, .string S3, .slice ql3 nl3 cl3, .slice qh3 nh3 ch3, .slice qz3 nz3 cz3] 26)
  have HC3 := Lib.hid (fun W hW => hv3 W (hbx.trans (Below.mono hW hbx.size)))
  clear hbx
  have HL3 := Lib.hid (show w5.heap.size ≤ wa.heap.size from Below.size hb)
  clear hI hd hn hA hb hbn hv3
  go_upto_region 16 with fail
  generalize hgg : wa.heap.size = g3 at HV3 HL3 ⊢
  clear hgg
  generalize wa.alloc (.cells #[.int .u8 k3, .string S3, .slice ql3 nl3 cl3, .slice qh3 nh3 ch3, .slice qz3 nz3 cz3] 26) = w6 at HV3 HVp HSw HB HC3 HA3 ⊢
  clear C1 HL3 HV3 HD3 HC3
  have C1 := Lib.hid (fun (W Y : World) (g : Nat) (hY : Below (W.alloc (.cells #[.string ⟨#[115, 99, 97, 114, 100]⟩, .string ⟨#[107]⟩] 9)).heap.size (W.alloc (.cells #[.string ⟨#[115, 99, 97, 114, 100]⟩, .string ⟨#[107]⟩] 9)) Y) (hgw : g = W.heap.size) (hW : Below w.heap.size w W) (hpv : PV.In W ⟨k1, S1, ql1, nl1, cl1, qh1, nh1, ch1, qz1, nz1, cz1, d1⟩) (hdv : PV.d ⟨k1, S1, ql1, nl1, cl1, qh1, nh1, ch1, qz1, nz1, cz1, d1⟩ = setV (F)) => (show Calls Tryd.prog 11 #[.agg #[.int .u8 k1, .string S1, .slice ql1 nl1 cl1, .slice qh1 nh1 ch1, .slice qz1 nz1 cz1], .slice (some ⟨g, 0, none⟩) 2 2] Y (DoN (setV (F)) (int (F.length : Int)) W) from by subst hgw; exact don_to (rfl) (on2 4 (by decide) ⟨#[115, 99, 97, 114, 100]⟩ ⟨#[107]⟩ (by decide) (by decide) (by decide) ⟨k1, S1, ql1, nl1, cl1, qh1, nh1, ch1, qz1, nz1, cz1, d1⟩ (F) W Y hY hpv hdv (HG.out W hW) (tame4 HUp.out))))
  obtain ⟨-, -, ra0, ra1, ra2, ra3, ra4⟩ := HVp.out.room
  dsimp only at ra0 ra1 ra2 ra3 ra4
  go_wp2_with fail
  clear ra0 ra1 ra2 ra3 ra4
  have HGl6 := Lib.hid HVp.out.lt
  with_reducible refine (C1.out w6 _ _ (Below.refl _ _) rfl HB.out HVp.out.pv HDp.out).mono ?_
  rintro e wa ⟨p4, vr4, rfl, hI, hd, hn, hA, hb⟩
  obtain ⟨k4, S4, ql4, nl4, cl4, qh4, nh4, ch4, qz4, nz4, cz4, d4⟩ := p4
  dsimp only [PV.agg]
  have HA4 := Lib.hid (hA.keep (Kit.below1 wa (.cells #[.int .u8 k4, .string S4, .slice ql4 nl4 cl4, .slice qh4 nh4 ch4, .slice qz4 nz4 cz4] 26)))
  obtain ⟨qr4, cr4, rfl, hv4⟩ := ans_text hA NI HNI.out XI HXI.out
  have hbn := hb.trans ((Kit.below1 wa (.cells #[.int .u8 k4, .string S4, .slice ql4 nl4 cl4, .slice qh4 nh4 ch4, .slice qz4 nz4 cz4] 26)).mono hb.size)
  have HVp := Lib.hid (HVp.out.keep hbn)
  have HSw := Lib.hid (HSw.out.keep hbn)
  have HA3 := Lib.hid (HA3.out.keep hbn)
  have HB := Lib.hid (HB.out.trans (hbn.mono HB.out.size))
  have HV4 := Lib.hid (show VB _ wa.heap.size ⟨k4, S4, ql4, nl4, cl4, qh4, nh4, ch4, qz4, nz4, cz4, d4⟩ from VB.new hI)
  have HD4 := Lib.hid (show PV.d ⟨k4, S4, ql4, nl4, cl4, qh4, nh4, ch4, qz4, nz4, cz4, d4⟩ = _ from hd)
  have hbx := Kit.below1 wa (.cells #[.int .u8 k4, .string S4, .slice ql4 nl4 cl4, .slice qh4 nh4 ch4, .slice qz4 nz4 cz4] 26)
  have HC4 := Lib.hid (fun W hW => hv4 W (hbx.trans (Below.mono hW hbx.size)))
  clear hbx
  have HL4 := Lib.hid (show w6.heap.size ≤ wa.heap.size from Below.size hb)
  clear hI hd hn hA hb hbn hv4
  go_upto_region 17 with fail
  generalize hgg : wa.heap.size = g4 at HV4 HL4 ⊢
  clear hgg
  generalize wa.alloc (.cells #[.int .u8 k4, .string S4, .slice ql4 nl4 cl4, .slice qh4 nh4 ch4, .slice qz4 nz4 cz4] 26) = w7 at HV4 HVp HSw HA3 HB HC4 HA4 ⊢
  clear C1 HL4 HV4 HD4 HC4
  go_wp2_with fail
  rename_i K0 hK0
  refine loop2_any w w7 q L n c m an ga vl HG.out HB.out HLn.out hcap HCm.out HS.out HZ.out hmn hm8 HAn.out HVl.out ⟨k1, S1, ql1, nl1, cl1, qh1, nh1, ch1, qz1, nz1, cz1, d1⟩ (by rw [← HFe.out]; exact HDp.out) HVp.out HRp.out HWg.out _ ?_
  intro v18 v19 v92 v93 v94 v95 v96 v97 v98 v99 v100 v101 v102 v103 v104 v105 v106 v107 v108 v109 v110 v111 v112 v113 v114 v115 v116 v117 v118 v119 wz p hDz hVz ho hs hB
  refine hK0 _ _ ?_
  obtain ⟨k5, S5, ql5, nl5, cl5, qh5, nh5, ch5, qz5, nz5, cz5, d5⟩ := p
  have hk5 : k5 = 0 := by
    have e1 : k5 = (d5.kind : Int) := VIn.ek hVz.pv
    rw [e1, show d5 = v0 from hDz]
    rfl
  subst hk5
  have HA3z := Lib.hid (ans_else HA3.out hs (fun j h1 h2 => ho j h2 (by have := HGl.out; omega)))
  have HA4z := Lib.hid (ans_else HA4.out hs (fun j h1 h2 => ho j h2 (by have := HGl6.out; omega)))
  have HSz := Lib.hid (ss_same HSw.out hs (fun b hb hlt => ho b.block hlt (HQw.out b hb).1))
  have hc3 : ∀ W, Below wz.heap.size wz W → _ := fun W hW => ans_at HA3z.out XT HXT.out W hW
  have hc4 : ∀ W, Below wz.heap.size wz W → _ := fun W hW => ans_at HA4z.out XI HXI.out W hW
  have hVz' := Lib.hid hVz
  have hl0 : ∀ W, Below wz.heap.size wz W → W.cell? ⟨ga, 0, none⟩ = some (.int .u8 0) := fun W hW => (hVz'.out.keep hW).room.c0
  obtain rfl : nw = F.length := HNw.out
  obtain ⟨nf, hnf⟩ : ∃ nf, F.length = nf := ⟨_, rfl⟩
  have A1 := Lib.hid (fun W (h : Below wz.heap.size wz W) => (show Calls Tryd.prog 15 #[.slice qw F.length cw] W (Said wz W NT XT) from (rtexts qw F F.length cw W rfl (HSz.out.keep h) (by have := HFl.out; omega) (fun s hs => by have := HF.out.1 s hs; omega)).mono (fun e w' hh => said_of hh h NT HNT.out XT HXT.out)))
  have A2 := Lib.hid (fun W (h : Below wz.heap.size wz W) => (show Calls Tryd.prog 16 #[.int .i64 (F.length : Int)] W (Said wz W NI XI) from (rint (F.length : Int) W (by omega) (by have := HFl.out; omega)).mono (fun e w' hh => said_of hh h NI HNI.out XI HXI.out)))
  have hnf10 : nf ≤ 10 := by rw [← hnf]; exact HFl.out
  rw [hnf] at A1 A2 ⊢
  have HBz := Lib.hid hB
  clear HA3 HA4 HA3z HA4z HSw HSz HQw HNw HDp HVp HRp HNT HXT HNI HXI HGl HGl6 HF HFl HFe HUp HVl HWg HLn HS HZ HCm HAn hDz hVz ho hs hB hK0 hnf HB hcap hmn hm8 hnz HG
  go_upto_region 22 with fail
  refine wp_region_held_drew (S := fun W => Below wz.heap.size wz W ∧ Below wz.heap.size wz W) (by kernel_rfl) ?_ (fun hHeld => ?_)
  · exact ⟨(Below.refl _ _).drew, (Below.refl _ _).drew⟩
  refine wpAnyH_take (i := 0) (v := ?_) rfl (by kernel_rfl) (by kernel_rfl) (by kernel_rfl) (fun _ _ _ h => h) (Or.inl ⟨by rfl, ?_⟩) (by assumption) ?_
  rotate_left
  · intro W0 hSw; obtain ⟨hSa, hSb⟩ := hSw; go_simp; all_goals (with_reducible rfl)
  try simp only [Act.put, List.getElem_toArray, List.getElem_cons_zero, List.setIfInBounds_toArray, List.set_cons_zero, List.set_cons_succ]
  refine wpAnyH_take (i := 1) (v := ?_) rfl (by kernel_rfl) (by kernel_rfl) (by kernel_rfl) (fun _ _ _ h => h) (Or.inl ⟨by rfl, ?_⟩) (by assumption) ?_
  rotate_left
  · intro W0 hSw; obtain ⟨hSa, hSb⟩ := hSw; go_simp; all_goals (with_reducible rfl)
  try simp only [Act.put, List.getElem_toArray, List.getElem_cons_succ, List.getElem_cons_zero, List.setIfInBounds_toArray, List.set_cons_zero, List.set_cons_succ]
  refine wpAnyH_take (i := 2) (v := ?_) rfl (by kernel_rfl) (by kernel_rfl) (by kernel_rfl) (fun _ _ _ h => h) (Or.inl ⟨by rfl, ?_⟩) (by assumption) ?_
  rotate_left
  · intro W0 hSw; obtain ⟨hSa, hSb⟩ := hSw; go_simp; all_goals (with_reducible rfl)
  try simp only [Act.put, List.getElem_toArray, List.getElem_cons_succ, List.getElem_cons_zero, List.setIfInBounds_toArray, List.set_cons_zero, List.set_cons_succ]
  refine wpAnyH_take (i := 3) (v := ?_) rfl (by kernel_rfl) (by kernel_rfl) (by kernel_rfl) (fun _ _ _ h => h) (Or.inl ⟨by rfl, ?_⟩) (by assumption) ?_
  rotate_left
  · intro W0 hSw; obtain ⟨hSa, hSb⟩ := hSw; go_simp; all_goals (with_reducible rfl)
  try simp only [Act.put, List.getElem_toArray, List.getElem_cons_succ, List.getElem_cons_zero, List.setIfInBounds_toArray, List.set_cons_zero, List.set_cons_succ]
  refine wpAnyH_take (i := 4) (v := ?_) rfl (by kernel_rfl) (by kernel_rfl) (by kernel_rfl) (fun _ _ _ h => h) (Or.inl ⟨by rfl, ?_⟩) (by assumption) ?_
  rotate_left
  · intro W0 hSw; obtain ⟨hSa, hSb⟩ := hSw; go_simp; all_goals (with_reducible rfl)
  try simp only [Act.put, List.getElem_toArray, List.getElem_cons_succ, List.getElem_cons_zero, List.setIfInBounds_toArray, List.set_cons_zero, List.set_cons_succ]
  refine wpAnyH_take (i := 5) (v := ?_) rfl (by kernel_rfl) (by kernel_rfl) (by kernel_rfl) (fun _ _ _ h => h) (Or.inl ⟨by rfl, ?_⟩) (by assumption) ?_
  rotate_left
  · intro W0 hSw; obtain ⟨hSa, hSb⟩ := hSw; go_simp; all_goals (with_reducible rfl)
  try simp only [Act.put, List.getElem_toArray, List.getElem_cons_succ, List.getElem_cons_zero, List.setIfInBounds_toArray, List.set_cons_zero, List.set_cons_succ]
  refine wpAnyH_take (i := 6) (v := ?_) rfl (by kernel_rfl) (by kernel_rfl) (by kernel_rfl) (fun _ _ _ h => h) (Or.inl ⟨by rfl, ?_⟩) (by assumption) ?_
  rotate_left
  · intro W0 hSw; obtain ⟨hSa, hSb⟩ := hSw; go_simp; all_goals (with_reducible rfl)
  try simp only [Act.put, List.getElem_toArray, List.getElem_cons_succ, List.getElem_cons_zero, List.setIfInBounds_toArray, List.set_cons_zero, List.set_cons_succ]
  refine wpAnyH_take (i := 7) (v := ?_) rfl (by kernel_rfl) (by kernel_rfl) (by kernel_rfl) (fun _ _ _ h => h) (Or.inl ⟨by rfl, ?_⟩) (by assumption) ?_
  rotate_left
  · intro W0 hSw; obtain ⟨hSa, hSb⟩ := hSw; go_simp; all_goals (with_reducible rfl)
  try simp only [Act.put, List.getElem_toArray, List.getElem_cons_succ, List.getElem_cons_zero, List.setIfInBounds_toArray, List.set_cons_zero, List.set_cons_succ]
  refine wpAnyH_ready (rs := [8]) (by kernel_rfl) (by simp) ?_
  refine AllReadyH.cons rfl (fun K hK => ?_) AllReadyH.nil
  go_simp
  go_wp2_with (go_at_call 15; (refine (A1.out _ hHeld.1).mono ?_); rintro e wA0 ⟨pwA0, cwA0, rfl, vwA0, bwA0, ywA0, zwA0⟩)
  have hC := hHeld.2.trans (ywA0.mono hHeld.2.size)
  refine hK.out _ _ ?_ (fun hHeld2 => ?_)
  · exact ⟨bwA0, hC⟩
  clear hK K hHeld hHeld2
  have hHeld : Below wz.heap.size wz wA0 ∧ Below wA0.heap.size wA0 wA0 := ⟨bwA0, zwA0⟩
  refine held_mono (S' := fun W => Below wz.heap.size wz W ∧ Below wA0.heap.size wA0 W) (fun W hW => ⟨hW.1, hC.trans (hW.2.mono hC.size)⟩) _ _ _ _ ?_
  clear hC
  refine wpAnyH_take (i := 9) (v := ?_) rfl (by kernel_rfl) (by kernel_rfl) (by kernel_rfl) (fun _ _ _ h => h) (Or.inl ⟨by rfl, ?_⟩) (by assumption) ?_
  rotate_left
  · intro W0 hSw; obtain ⟨hSa, hSb⟩ := hSw; go_simp; all_goals (with_reducible rfl)
  try simp only [Act.put, List.getElem_toArray, List.getElem_cons_succ, List.getElem_cons_zero, List.setIfInBounds_toArray, List.set_cons_zero, List.set_cons_succ]
  refine wpAnyH_take (i := 10) (v := ?_) rfl (by kernel_rfl) (by kernel_rfl) (by kernel_rfl) (fun _ _ _ h => h) (Or.inl ⟨by rfl, ?_⟩) (by assumption) ?_
  rotate_left
  · intro W0 hSw; obtain ⟨hSa, hSb⟩ := hSw; go_simp; all_goals (with_reducible rfl)
  try simp only [Act.put, List.getElem_toArray, List.getElem_cons_succ, List.getElem_cons_zero, List.setIfInBounds_toArray, List.set_cons_zero, List.set_cons_succ]
  refine wpAnyH_take (i := 11) (v := ?_) rfl (by kernel_rfl) (by kernel_rfl) (by kernel_rfl) (fun _ _ _ h => h) (Or.inl ⟨by rfl, ?_⟩) (by assumption) ?_
  rotate_left
  · intro W0 hSw; obtain ⟨hSa, hSb⟩ := hSw; go_simp; all_goals (with_reducible rfl)
  try simp only [Act.put, List.getElem_toArray, List.getElem_cons_succ, List.getElem_cons_zero, List.setIfInBounds_toArray, List.set_cons_zero, List.set_cons_succ]
  refine wpAnyH_take (i := 12) (v := ?_) rfl (by kernel_rfl) (by kernel_rfl) (by kernel_rfl) (fun _ _ _ h => h) (Or.inl ⟨by rfl, ?_⟩) (by assumption) ?_
  rotate_left
  · intro W0 hSw; obtain ⟨hSa, hSb⟩ := hSw; go_simp; all_goals (with_reducible rfl)
  try simp only [Act.put, List.getElem_toArray, List.getElem_cons_succ, List.getElem_cons_zero, List.setIfInBounds_toArray, List.set_cons_zero, List.set_cons_succ]
  refine wpAnyH_take (i := 13) (v := ?_) rfl (by kernel_rfl) (by kernel_rfl) (by kernel_rfl) (fun _ _ _ h => h) (Or.inl ⟨by rfl, ?_⟩) (by assumption) ?_
  rotate_left
  · intro W0 hSw; obtain ⟨hSa, hSb⟩ := hSw; go_simp; all_goals (with_reducible rfl)
  try simp only [Act.put, List.getElem_toArray, List.getElem_cons_succ, List.getElem_cons_zero, List.setIfInBounds_toArray, List.set_cons_zero, List.set_cons_succ]
  refine wpAnyH_take (i := 14) (v := ?_) rfl (by kernel_rfl) (by kernel_rfl) (by kernel_rfl) (fun _ _ _ h => h) (Or.inl ⟨by rfl, ?_⟩) (by assumption) ?_
  rotate_left
  · intro W0 hSw; obtain ⟨hSa, hSb⟩ := hSw; go_simp; all_goals (with_reducible rfl)
  try simp only [Act.put, List.getElem_toArray, List.getElem_cons_succ, List.getElem_cons_zero, List.setIfInBounds_toArray, List.set_cons_zero, List.set_cons_succ]
  refine wpAnyH_take (i := 15) (v := ?_) rfl (by kernel_rfl) (by kernel_rfl) (by kernel_rfl) (fun _ _ _ h => h) (Or.inl ⟨by rfl, ?_⟩) (by assumption) ?_
  rotate_left
  · intro W0 hSw; obtain ⟨hSa, hSb⟩ := hSw; go_simp; all_goals (with_reducible rfl)
  try simp only [Act.put, List.getElem_toArray, List.getElem_cons_succ, List.getElem_cons_zero, List.setIfInBounds_toArray, List.set_cons_zero, List.set_cons_succ]
  refine wpAnyH_take (i := 16) (v := ?_) rfl (by kernel_rfl) (by kernel_rfl) (by kernel_rfl) (fun _ _ _ h => h) (Or.inl ⟨by rfl, ?_⟩) (by assumption) ?_
  rotate_left
  · intro W0 hSw; obtain ⟨hSa, hSb⟩ := hSw; go_simp; all_goals (with_reducible rfl)
  try simp only [Act.put, List.getElem_toArray, List.getElem_cons_succ, List.getElem_cons_zero, List.setIfInBounds_toArray, List.set_cons_zero, List.set_cons_succ]
  refine wpAnyH_ready (rs := [17]) (by kernel_rfl) (by simp) ?_
  refine AllReadyH.cons rfl (fun K hK => ?_) AllReadyH.nil
  go_simp
  go_wp2_with (go_at_call 16; (refine (A2.out _ hHeld.1).mono ?_); rintro e wA1 ⟨pwA1, cwA1, rfl, vwA1, bwA1, ywA1, zwA1⟩)
  have hC := hHeld.2.trans (ywA1.mono hHeld.2.size)
  refine hK.out _ _ ?_ (fun hHeld2 => ?_)
  · exact ⟨bwA1, hC⟩
  clear hK K hHeld hHeld2
  have hHeld : Below wz.heap.size wz wA1 ∧ Below wA1.heap.size wA1 wA1 := ⟨bwA1, zwA1⟩
  refine held_mono (S' := fun W => Below wz.heap.size wz W ∧ Below wA1.heap.size wA1 W) (fun W hW => ⟨hW.1, hC.trans (hW.2.mono hC.size)⟩) _ _ _ _ ?_
  clear hC
  refine wpAnyH_take (i := 18) (v := ?_) rfl (by kernel_rfl) (by kernel_rfl) (by kernel_rfl) (fun _ _ _ h => h) (Or.inl ⟨by rfl, ?_⟩) (by assumption) ?_
  rotate_left
  · intro W0 hSw; obtain ⟨hSa, hSb⟩ := hSw; go_simp; all_goals (with_reducible rfl)
  try simp only [Act.put, List.getElem_toArray, List.getElem_cons_succ, List.getElem_cons_zero, List.setIfInBounds_toArray, List.set_cons_zero, List.set_cons_succ]
  refine wpAnyH_take (i := 19) (v := ?_) rfl (by kernel_rfl) (by kernel_rfl) (by kernel_rfl) (fun _ _ _ h => h) (Or.inl ⟨by rfl, ?_⟩) (by assumption) ?_
  rotate_left
  · intro W0 hSw; obtain ⟨hSa, hSb⟩ := hSw; go_simp; all_goals (with_reducible rfl)
  try simp only [Act.put, List.getElem_toArray, List.getElem_cons_succ, List.getElem_cons_zero, List.setIfInBounds_toArray, List.set_cons_zero, List.set_cons_succ]
  refine wpAnyH_take (i := 20) (v := ?_) rfl (by kernel_rfl) (by kernel_rfl) (by kernel_rfl) (fun _ _ _ h => h) (Or.inl ⟨by rfl, ?_⟩) (by assumption) ?_
  rotate_left
  · intro W0 hSw; obtain ⟨hSa, hSb⟩ := hSw; go_simp; all_goals (with_reducible rfl)
  try simp only [Act.put, List.getElem_toArray, List.getElem_cons_succ, List.getElem_cons_zero, List.setIfInBounds_toArray, List.set_cons_zero, List.set_cons_succ]
  refine wpAnyH_take (i := 21) (v := ?_) rfl (by kernel_rfl) (by kernel_rfl) (by kernel_rfl) (fun _ _ _ h => h) (Or.inl ⟨by rfl, ?_⟩) (by assumption) ?_
  rotate_left
  · intro W0 hSw; obtain ⟨hSa, hSb⟩ := hSw; go_simp; all_goals (with_reducible rfl)
  try simp only [Act.put, List.getElem_toArray, List.getElem_cons_succ, List.getElem_cons_zero, List.setIfInBounds_toArray, List.set_cons_zero, List.set_cons_succ]
  refine wpAnyH_take (i := 22) (v := ?_) rfl (by kernel_rfl) (by kernel_rfl) (by kernel_rfl) (fun _ _ _ h => h) (Or.inl ⟨by rfl, ?_⟩) (by assumption) ?_
  rotate_left
  · intro W0 hSw; obtain ⟨hSa, hSb⟩ := hSw; go_simp; all_goals (with_reducible rfl)
  try simp only [Act.put, List.getElem_toArray, List.getElem_cons_succ, List.getElem_cons_zero, List.setIfInBounds_toArray, List.set_cons_zero, List.set_cons_succ]
  refine wpAnyH_take (i := 23) (v := ?_) rfl (by kernel_rfl) (by kernel_rfl) (by kernel_rfl) (fun _ _ _ h => h) (Or.inl ⟨by rfl, ?_⟩) (by assumption) ?_
  rotate_left
  · intro W0 hSw; obtain ⟨hSa, hSb⟩ := hSw; go_simp; all_goals (with_reducible rfl)
  try simp only [Act.put, List.getElem_toArray, List.getElem_cons_succ, List.getElem_cons_zero, List.setIfInBounds_toArray, List.set_cons_zero, List.set_cons_succ]
  refine wpAnyH_take (i := 24) (v := ?_) rfl (by kernel_rfl) (by kernel_rfl) (by kernel_rfl) (fun _ _ _ h => h) (Or.inl ⟨by rfl, ?_⟩) (by assumption) ?_
  rotate_left
  · intro W0 hSw; obtain ⟨hSa, hSb⟩ := hSw; go_simp; all_goals (with_reducible rfl)
  try simp only [Act.put, List.getElem_toArray, List.getElem_cons_succ, List.getElem_cons_zero, List.setIfInBounds_toArray, List.set_cons_zero, List.set_cons_succ]
  refine wpAnyH_take (i := 25) (v := ?_) rfl (by kernel_rfl) (by kernel_rfl) (by kernel_rfl) (fun _ _ _ h => h) (Or.inl ⟨by rfl, ?_⟩) (by assumption) ?_
  rotate_left
  · intro W0 hSw; obtain ⟨hSa, hSb⟩ := hSw; go_simp; all_goals (with_reducible rfl)
  try simp only [Act.put, List.getElem_toArray, List.getElem_cons_succ, List.getElem_cons_zero, List.setIfInBounds_toArray, List.set_cons_zero, List.set_cons_succ]
  refine wpAnyH_take (i := 26) (v := ?_) rfl (by kernel_rfl) (by kernel_rfl) (by kernel_rfl) (fun _ _ _ h => h) (Or.inl ⟨by rfl, ?_⟩) (by assumption) ?_
  rotate_left
  · intro W0 hSw; obtain ⟨hSa, hSb⟩ := hSw; go_simp; all_goals (with_reducible rfl)
  try simp only [Act.put, List.getElem_toArray, List.getElem_cons_succ, List.getElem_cons_zero, List.setIfInBounds_toArray, List.set_cons_zero, List.set_cons_succ]
  refine wpAnyH_done (by kernel_rfl) ?_ _
  go_wp2_with fail
  go_ret
  exact ⟨rfl, HBz.out.trans (hHeld.1.mono HBz.out.size)⟩

end Go.Proofs.YtmdkegamfjkfbaaDoor.setsTurns
