/-
  HashesTurns: pairs of unlike names make the same hash in whichever order they are set; a hash of which all names are taken out is none.
-/
import Derived.Test.YtjikppjlkicgpaaDoorHashesTurnsLoop
import Derived.Test.YtjikppjlkicgpaaDoorRefVal3
import Derived.Deep.QuietTactic
import Derived.Deep.DeepCutAuto
import Derived.BigQuiet
import Derived.StillTailTactics
import Derived.Deep.RegionLaw
namespace Go.Proofs.YtjikppjlkicgpaaDoor.hashesTurns
open Go.RowKit Kit StrT RowG BOrd ValT StoT ReplyT ReplyMath ValM BytesIn DoT Low LstT HasT NumL NumW NumMath HasM SaidT RefR DoV LawK HasL RefV
set_option linter.unusedVariables false
set_option maxRecDepth 100000
-- ASKS: NumL.Gd


theorem same_self (d : V) : sameB d d = true := decide_eq_true rfl
theorem out_row (vl : Nat → List UInt8) (m : Nat) (hm : m ≤ 8) : rowD 2 (turnL vl (List.range m)) ((List.range m).map nmT) = ([], int (m : Int)) := by
  show (delP (turnL vl (List.range m)) ((List.range m).map nmT), int (((turnL vl (List.range m)).length : Int) - ((delP (turnL vl (List.range m)) ((List.range m).map nmT)).length : Int))) = _
  rw [turn_out, turn_full vl m hm]
  simp
theorem turn_eq (vl : Nat → List UInt8) (an m : Nat) (hm : m ≤ 8) : turnL vl (rotL an m m) = turnL vl (List.range m) := by
  rcases Nat.eq_zero_or_pos m with h0 | h0
  · subst h0
    rfl
  · exact (turn_same vl _ _ (fun i hi => by have := List.mem_range.1 hi; omega) (rot_all an m h0)).symm

set_option maxHeartbeats 16000000 in
theorem walk (q : Option Addr) (L : List (List UInt8)) (n c : Nat) (a : Int) (w : World) (hL : L.length = n) (h : StrT.Ss w q L) (hz : ∀ s ∈ L, s.length ≤ 140737488351232) (hcap : n ≤ c) (hcm : c ≤ 9223372036854775807) (hnil : q = none → c = 0) (a0 : 0 ≤ a) (a1 : a ≤ 255) (hg : Gd w) :
    Calls Tryd.prog 6 #[.slice q n c, .int .u8 a] w fun e w' => e = .returned (.bool true) ∧ Below w.heap.size w w' := by
  obtain ⟨an, rfl⟩ : ∃ an : Nat, a = (an : Int) := ⟨a.toNat, by omega⟩
  have HG := Lib.hid (fun W (h : Below w.heap.size w W) => hg.keep h)
  have C0 := Lib.hid (shown_any w hg)
  obtain ⟨m, hm⟩ : ∃ m : Nat, m = min n 8 := ⟨_, rfl⟩
  have hmin : min (n : Int) 8 = (m : Int) := by omega
  have hm8 : m ≤ 8 := by omega
  have hmn : m ≤ n := by omega
  have HLn := Lib.hid hL
  have HS := Lib.hid h
  have HZ := Lib.hid hz
  have HCm := Lib.hid hcm
  have HAn := Lib.hid (show an ≤ 255 by omega)
  have hnz : (n : Int) ≤ 9223372036854775807 := by omega
  clear h hz hg hL hnil hm hcm a0 a1
  go_enter Tryd.func6, Tryd.ntmps6
  go_wp2_with fail
  with_reducible refine C0.out.mono ?_
  rintro e w1 ⟨rfl, hb1⟩
  have HB := Lib.hid hb1
  have HV1 := Lib.hid (VB.new (pv0_in w1))
  have HV2 := Lib.hid (VB.new (pv0_in (w1.alloc (.cells #[.int .u8 0, .string ⟨#[]⟩, .slice none 0 0, .slice none 0 0, .slice none 0 0] 26))))
  have HB3 := Lib.hid (show Below w1.heap.size w1 (((w1.alloc (.cells #[.int .u8 0, .string ⟨#[]⟩, .slice none 0 0, .slice none 0 0, .slice none 0 0] 26)).alloc (.cells #[.int .u8 0, .string ⟨#[]⟩, .slice none 0 0, .slice none 0 0, .slice none 0 0] 26)).alloc (.cells #[.string ⟨#[104, 100, 101, 108]⟩, .string ⟨#[107]⟩] 9)) from (((Below.refl _ _).alloc (Nat.le_refl _) _).alloc (by simp) _).alloc (by simp; omega) _)
  have HA := Lib.hid (show VB (((w1.alloc (.cells #[.int .u8 0, .string ⟨#[]⟩, .slice none 0 0, .slice none 0 0, .slice none 0 0] 26)).alloc (.cells #[.int .u8 0, .string ⟨#[]⟩, .slice none 0 0, .slice none 0 0, .slice none 0 0] 26)).alloc (.cells #[.string ⟨#[104, 100, 101, 108]⟩, .string ⟨#[107]⟩] 9)) w1.heap.size pv0 from (HV1.out.keep (Kit.below1 _ _)).keep (Kit.below1 _ _))
  have HBb := Lib.hid (show VB (((w1.alloc (.cells #[.int .u8 0, .string ⟨#[]⟩, .slice none 0 0, .slice none 0 0, .slice none 0 0] 26)).alloc (.cells #[.int .u8 0, .string ⟨#[]⟩, .slice none 0 0, .slice none 0 0, .slice none 0 0] 26)).alloc (.cells #[.string ⟨#[104, 100, 101, 108]⟩, .string ⟨#[107]⟩] 9)) (w1.heap.size + 1) pv0 from by
    have := HV2.out.keep (Kit.below1 _ (.cells #[.string ⟨#[104, 100, 101, 108]⟩, .string ⟨#[107]⟩] 9))
    rw [show (w1.alloc (.cells #[.int .u8 0, .string ⟨#[]⟩, .slice none 0 0, .slice none 0 0, .slice none 0 0] 26)).heap.size = w1.heap.size + 1 by simp] at this
    exact this)
  have HO := Lib.hid (show OwnB strE (((w1.alloc (.cells #[.int .u8 0, .string ⟨#[]⟩, .slice none 0 0, .slice none 0 0, .slice none 0 0] 26)).alloc (.cells #[.int .u8 0, .string ⟨#[]⟩, .slice none 0 0, .slice none 0 0, .slice none 0 0] 26)).alloc (.cells #[.string ⟨#[104, 100, 101, 108]⟩, .string ⟨#[107]⟩] 9)) (w1.heap.size + 1 + 1) 2 2 [(⟨#[104, 100, 101, 108]⟩ : ByteArray).data.toList, (⟨#[107]⟩ : ByteArray).data.toList] from by
    have h1 := lit2 ((w1.alloc (.cells #[.int .u8 0, .string ⟨#[]⟩, .slice none 0 0, .slice none 0 0, .slice none 0 0] 26)).alloc (.cells #[.int .u8 0, .string ⟨#[]⟩, .slice none 0 0, .slice none 0 0, .slice none 0 0] 26)) ⟨#[104, 100, 101, 108]⟩ ⟨#[107]⟩
    obtain ⟨b, e, -, ho⟩ := ownR_blk h1 rfl (by decide)
    injection e with e
    injection e with e
    rw [← e] at ho
    simpa using ho)
  have HBw := Lib.hid (HB.out.trans (HB3.out.mono HB.out.size))
  have HWs := Lib.hid HB.out.size
  clear hb1 C0 HV1 HV2 HB3 HB
  go_wp2_with fail
  rename_i K0 hK0
  refine loop_any w _ q L n c m an w1.heap.size (w1.heap.size + 1) (w1.heap.size + 1 + 1) _ HG.out HBw.out HLn.out hcap HCm.out HS.out HZ.out hmn hm8 HAn.out rfl HA.out HBb.out (by omega) HWs.out (Nat.le_succ_of_le HWs.out) HO.out (by omega) (by omega) (Nat.le_succ_of_le (Nat.le_succ_of_le HWs.out)) _ ?_
  intro v11 v12 v23 v24 v25 v26 v27 v28 v29 v30 v31 v32 v33 v34 v35 v36 v37 v38 v39 v40 v41 v42 v43 v44 v45 v46 v47 v48 v49 v50 v51 v52 v53 v54 v55 v56 v57 v58 v59 v60 v61 v62 v63 v64 v65 v66 v67 v68 v69 v70 v71 v72 v73 v74 v75 v76 v77 v78 v79 v80 v81 v82 v83 v84 v85 wx g cap p r hDp hDr hVp hVr hO hB
  refine hK0 _ _ ?_
  generalize (fun i => (wd L i).take 20) = vl at hDp hDr
  generalize w1.heap.size = ga at hVp hVr ⊢
  rw [turn_eq vl an m hm8] at hDr
  obtain ⟨k1, S1, ql1, nl1, cl1, qh1, nh1, ch1, qz1, nz1, cz1, d1⟩ := p
  obtain ⟨k2, S2, ql2, nl2, cl2, qh2, nh2, ch2, qz2, nz2, cz2, d2⟩ := r
  have hDp : d1 = hashV (turnL vl (List.range m)) := hDp
  have hDr : d2 = hashV (turnL vl (List.range m)) := hDr
  have HDp := Lib.hid (show PV.d ⟨k1, S1, ql1, nl1, cl1, qh1, nh1, ch1, qz1, nz1, cz1, d1⟩ = hashV (turnL vl (List.range m)) from hDp)
  have HVp := Lib.hid hVp
  have HB := Lib.hid hB
  have HO := Lib.hid hO
  have CS := Lib.hid (rsame k1 S1 ql1 nl1 cl1 qh1 nh1 ch1 qz1 nz1 cz1 d1 k2 S2 ql2 nl2 cl2 qh2 nh2 ch2 qz2 nz2 cz2 d2 wx hVp.pv hVr.pv)
  rw [show sameB d1 d2 = true by rw [hDp, hDr]; exact same_self _] at CS
  obtain ⟨-, -, ra0, ra1, ra2, ra3, ra4⟩ := HVp.out.room
  dsimp only at ra0 ra1 ra2 ra3 ra4
  have HVr := Lib.hid hVr
  obtain ⟨-, -, rb0, rb1, rb2, rb3, rb4⟩ := HVr.out.room
  dsimp only at rb0 rb1 rb2 rb3 rb4
  clear hDp hDr hVp hVr hO hB HVr HA HBb HBw HWs hK0 HAn HCm HLn HS HZ hmin
  go_wp2_with fail
  clear ra0 ra1 ra2 ra3 ra4 rb0 rb1 rb2 rb3 rb4
  with_reducible refine CS.out.mono ?_
  rintro e w5 ⟨rfl, hb5⟩
  have HVp5 := Lib.hid (HVp.out.keep hb5)
  have HB := Lib.hid (HB.out.trans (hb5.mono HB.out.size))
  have HO5 := Lib.hid (HO.out.keep hb5)
  clear hb5 CS HVp HO
  rcases Nat.eq_zero_or_pos m with h0 | h0
  · subst h0
    go_wp2_with fail
    go_ret
    exact ⟨rfl, HB.out⟩
  · have tz : ((m : Int) == 0) = false := by rw [beq_eq_false_iff_ne]; omega
    have tz2 : ¬ (m : Int) = 0 := by omega
    obtain ⟨nz, hnz2⟩ : ∃ nz, nz = 2 + m := ⟨_, rfl⟩
    have HNz := Lib.hid hnz2
    have CD := Lib.hid (show Calls Tryd.prog 11 #[.agg #[.int .u8 k1, .string S1, .slice ql1 nl1 cl1, .slice qh1 nh1 ch1, .slice qz1 nz1 cz1], .slice (some ⟨g, 0, none⟩) nz cap] w5 (DoN (hashV []) (int (m : Int)) w5) from don_to (out_row vl m hm8) (onR 2 (by decide) ⟨k1, S1, ql1, nl1, cl1, qh1, nh1, ch1, qz1, nz1, cz1, d1⟩ (turnL vl (List.range m)) ⟨#[104, 100, 101, 108]⟩ ⟨#[107]⟩ ((List.range m).map nmT) (some ⟨g, 0, none⟩) nz cap w5 HVp5.out.pv HDp.out (HG.out w5 HB.out) (by rw [hnz2]; simp) (by rw [hnz2]; exact HO5.out.2.1) (by rw [hnz2]; show 3 ≤ _; omega) (rs_ss.1 HO5.out.rs) (by decide) (by decide) (tame2 (turn_up vl _) (by simp; omega))))
    rw [← hnz2]
    obtain ⟨NI, HNI⟩ : ∃ NR, Hid ((int (m : Int)).length = NR) := ⟨_, Lib.hid rfl⟩
    obtain ⟨XI, HXI⟩ : ∃ XR : ByteArray, Hid (XR.data.toList = int (m : Int)) := ⟨⟨(int (m : Int)).toArray⟩, Lib.hid rfl⟩
    clear hnz2 HO5
    obtain ⟨-, -, ra0, ra1, ra2, ra3, ra4⟩ := HVp5.out.room
    dsimp only at ra0 ra1 ra2 ra3 ra4
    go_wp2_with fail
    clear ra0 ra1 ra2 ra3 ra4
    with_reducible refine CD.out.mono ?_
    rintro e wa ⟨p9, vr9, rfl, hI, hd, hn, hA, hb⟩
    obtain ⟨k9, S9, ql9, nl9, cl9, qh9, nh9, ch9, qz9, nz9, cz9, d9⟩ := p9
    dsimp only [PV.agg]
    obtain ⟨qr9, cr9, rfl, hv9⟩ := ans_text hA NI HNI.out XI HXI.out
    have hbn := hb.trans ((Kit.below1 wa (.cells #[.int .u8 k9, .string S9, .slice ql9 nl9 cl9, .slice qh9 nh9 ch9, .slice qz9 nz9 cz9] 26)).mono hb.size)
    have HVp5 := Lib.hid (HVp5.out.keep hbn)
    have HB := Lib.hid (HB.out.trans (hbn.mono HB.out.size))
    have HV9 := Lib.hid (show VB _ wa.heap.size ⟨k9, S9, ql9, nl9, cl9, qh9, nh9, ch9, qz9, nz9, cz9, d9⟩ from VB.new hI)
    have HD9 := Lib.hid (show PV.d ⟨k9, S9, ql9, nl9, cl9, qh9, nh9, ch9, qz9, nz9, cz9, d9⟩ = _ from hd)
    have hbx := Kit.below1 wa (.cells #[.int .u8 k9, .string S9, .slice ql9 nl9 cl9, .slice qh9 nh9 ch9, .slice qz9 nz9 cz9] 26)
    have HC9 := Lib.hid (fun W hW => hv9 W (hbx.trans (Below.mono hW hbx.size)))
    clear hbx
    have HL9 := Lib.hid (show w5.heap.size ≤ wa.heap.size from Below.size hb)
    clear hI hd hn hA hb hbn hv9
    go_upto_region 18 with fail
    generalize hgg : wa.heap.size = g9 at HV9 HL9 ⊢
    clear hgg
    generalize wa.alloc (.cells #[.int .u8 k9, .string S9, .slice ql9 nl9 cl9, .slice qh9 nh9 ch9, .slice qz9 nz9 cz9] 26) = w6 at HV9 HVp5 HB HC9 ⊢
    have hk9 : k9 = 0 := by
      have e1 : k9 = (d9.kind : Int) := VIn.ek HV9.out.pv
      rw [e1, show d9 = hashV [] from HD9.out]
      rfl
    have hn1 : nh1 = m := by
      have := (pv_prs HVp5.out.pv HDp.out).1
      rw [turn_full vl m hm8] at this
      exact this
    subst hk9 hn1
    have hl0 : ∀ W, Below w6.heap.size w6 W → W.cell? ⟨g9, 0, none⟩ = some (.int .u8 0) := fun W hW => (HV9.out.keep hW).room.c0
    have hl1 : ∀ W, Below w6.heap.size w6 W → W.cell? ⟨ga, 3, none⟩ = some (.slice qh1 nh1 ch1) := fun W hW => (HVp5.out.keep hW).room.c3
    have hc := HC9.out
    have A1 := Lib.hid (fun W (h : Below w6.heap.size w6 W) => (show Calls Tryd.prog 14 #[.int .i64 (nh1 : Int)] W (Said w6 W NI XI) from (rint (nh1 : Int) W (by omega) (by omega)).mono (fun e w' hh => said_of hh h NI HNI.out XI HXI.out)))
    clear HV9 HVp5 HC9 HD9 HDp HL9 CD HNI HXI HNz HG
    refine wp_region_held_drew (S := fun W => Below w6.heap.size w6 W ∧ Below w6.heap.size w6 W) (by kernel_rfl) ?_ (fun hHeld => ?_)
    · exact ⟨(Below.refl _ _).drew, (Below.refl _ _).drew⟩
    refine wpAnyH_take (i := 0) (v := ?_) rfl (by kernel_rfl) (by kernel_rfl) (by kernel_rfl) (fun _ _ _ h => h) (Or.inl ⟨by rfl, ?_⟩) (by assumption) ?_
    rotate_left
    · intro W0 hSw; obtain ⟨hSa, hSb⟩ := hSw; go_simp; all_goals (with_reducible rfl)
    try simp only [Act.put, List.getElem_toArray, List.getElem_cons_zero, List.setIfInBounds_toArray, List.set_cons_zero, List.set_cons_succ]
    refine wpAnyH_take (i := 1) (v := ?_) rfl (by kernel_rfl) (by kernel_rfl) (by kernel_rfl) (fun _ _ _ h => h) (Or.inl ⟨by rfl, ?_⟩) (by assumption) ?_
    rotate_left
    · intro W0 hSw; obtain ⟨hSa, hSb⟩ := hSw; go_simp; all_goals (with_reducible rfl)
    try simp only [Act.put, List.getElem_toArray, List.getElem_cons_succ, List.getElem_cons_zero, List.setIfInBounds_toArray, List.set_cons_zero, List.set_cons_succ]
    refine wpAnyH_take (i := 2) (v := ?_) rfl (by kernel_rfl) (by kernel_rfl) (by kernel_rfl) (fun _ _ _ h => h) (Or.inl ⟨by rfl, ?_⟩) (by assumption) ?_
    rotate_left
    · intro W0 hSw; obtain ⟨hSa, hSb⟩ := hSw; go_simp; all_goals (with_reducible rfl)
    try simp only [Act.put, List.getElem_toArray, List.getElem_cons_succ, List.getElem_cons_zero, List.setIfInBounds_toArray, List.set_cons_zero, List.set_cons_succ]
    refine wpAnyH_take (i := 3) (v := ?_) rfl (by kernel_rfl) (by kernel_rfl) (by kernel_rfl) (fun _ _ _ h => h) (Or.inl ⟨by rfl, ?_⟩) (by assumption) ?_
    rotate_left
    · intro W0 hSw; obtain ⟨hSa, hSb⟩ := hSw; go_simp; all_goals (with_reducible rfl)
    try simp only [Act.put, List.getElem_toArray, List.getElem_cons_succ, List.getElem_cons_zero, List.setIfInBounds_toArray, List.set_cons_zero, List.set_cons_succ]
    refine wpAnyH_take (i := 4) (v := ?_) rfl (by kernel_rfl) (by kernel_rfl) (by kernel_rfl) (fun _ _ _ h => h) (Or.inl ⟨by rfl, ?_⟩) (by assumption) ?_
    rotate_left
    · intro W0 hSw; obtain ⟨hSa, hSb⟩ := hSw; go_simp; all_goals (with_reducible rfl)
    try simp only [Act.put, List.getElem_toArray, List.getElem_cons_succ, List.getElem_cons_zero, List.setIfInBounds_toArray, List.set_cons_zero, List.set_cons_succ]
    refine wpAnyH_take (i := 5) (v := ?_) rfl (by kernel_rfl) (by kernel_rfl) (by kernel_rfl) (fun _ _ _ h => h) (Or.inl ⟨by rfl, ?_⟩) (by assumption) ?_
    rotate_left
    · intro W0 hSw; obtain ⟨hSa, hSb⟩ := hSw; go_simp; all_goals (with_reducible rfl)
    try simp only [Act.put, List.getElem_toArray, List.getElem_cons_succ, List.getElem_cons_zero, List.setIfInBounds_toArray, List.set_cons_zero, List.set_cons_succ]
    refine wpAnyH_take (i := 6) (v := ?_) rfl (by kernel_rfl) (by kernel_rfl) (by kernel_rfl) (fun _ _ _ h => h) (Or.inl ⟨by rfl, ?_⟩) (by assumption) ?_
    rotate_left
    · intro W0 hSw; obtain ⟨hSa, hSb⟩ := hSw; go_simp; all_goals (with_reducible rfl)
    try simp only [Act.put, List.getElem_toArray, List.getElem_cons_succ, List.getElem_cons_zero, List.setIfInBounds_toArray, List.set_cons_zero, List.set_cons_succ]
    refine wpAnyH_take (i := 7) (v := ?_) rfl (by kernel_rfl) (by kernel_rfl) (by kernel_rfl) (fun _ _ _ h => h) (Or.inl ⟨by rfl, ?_⟩) (by assumption) ?_
    rotate_left
    · intro W0 hSw; obtain ⟨hSa, hSb⟩ := hSw; go_simp; all_goals (with_reducible rfl)
    try simp only [Act.put, List.getElem_toArray, List.getElem_cons_succ, List.getElem_cons_zero, List.setIfInBounds_toArray, List.set_cons_zero, List.set_cons_succ]
    refine wpAnyH_take (i := 8) (v := ?_) rfl (by kernel_rfl) (by kernel_rfl) (by kernel_rfl) (fun _ _ _ h => h) (Or.inl ⟨by rfl, ?_⟩) (by assumption) ?_
    rotate_left
    · intro W0 hSw; obtain ⟨hSa, hSb⟩ := hSw; go_simp; all_goals (with_reducible rfl)
    try simp only [Act.put, List.getElem_toArray, List.getElem_cons_succ, List.getElem_cons_zero, List.setIfInBounds_toArray, List.set_cons_zero, List.set_cons_succ]
    refine wpAnyH_take (i := 9) (v := ?_) rfl (by kernel_rfl) (by kernel_rfl) (by kernel_rfl) (fun _ _ _ h => h) (Or.inl ⟨by rfl, ?_⟩) (by assumption) ?_
    rotate_left
    · intro W0 hSw; obtain ⟨hSa, hSb⟩ := hSw; go_simp; all_goals (with_reducible rfl)
    try simp only [Act.put, List.getElem_toArray, List.getElem_cons_succ, List.getElem_cons_zero, List.setIfInBounds_toArray, List.set_cons_zero, List.set_cons_succ]
    refine wpAnyH_take (i := 10) (v := ?_) rfl (by kernel_rfl) (by kernel_rfl) (by kernel_rfl) (fun _ _ _ h => h) (Or.inl ⟨by rfl, ?_⟩) (by assumption) ?_
    rotate_left
    · intro W0 hSw; obtain ⟨hSa, hSb⟩ := hSw; go_simp; all_goals (with_reducible rfl)
    try simp only [Act.put, List.getElem_toArray, List.getElem_cons_succ, List.getElem_cons_zero, List.setIfInBounds_toArray, List.set_cons_zero, List.set_cons_succ]
    refine wpAnyH_take (i := 11) (v := ?_) rfl (by kernel_rfl) (by kernel_rfl) (by kernel_rfl) (fun _ _ _ h => h) (Or.inl ⟨by rfl, ?_⟩) (by assumption) ?_
    rotate_left
    · intro W0 hSw; obtain ⟨hSa, hSb⟩ := hSw; go_simp; all_goals (with_reducible rfl)
    try simp only [Act.put, List.getElem_toArray, List.getElem_cons_succ, List.getElem_cons_zero, List.setIfInBounds_toArray, List.set_cons_zero, List.set_cons_succ]
    refine wpAnyH_take (i := 12) (v := ?_) rfl (by kernel_rfl) (by kernel_rfl) (by kernel_rfl) (fun _ _ _ h => h) (Or.inl ⟨by rfl, ?_⟩) (by assumption) ?_
    rotate_left
    · intro W0 hSw; obtain ⟨hSa, hSb⟩ := hSw; go_simp; all_goals (with_reducible rfl)
    try simp only [Act.put, List.getElem_toArray, List.getElem_cons_succ, List.getElem_cons_zero, List.setIfInBounds_toArray, List.set_cons_zero, List.set_cons_succ]
    refine wpAnyH_ready (rs := [13]) (by kernel_rfl) (by simp) ?_
    refine AllReadyH.cons rfl (fun K hK => ?_) AllReadyH.nil
    go_simp
    go_wp2_with (go_at_call 14; (refine (A1.out _ hHeld.1).mono ?_); rintro e wA0 ⟨pwA0, cwA0, rfl, vwA0, bwA0, ywA0, zwA0⟩)
    have hC := hHeld.2.trans (ywA0.mono hHeld.2.size)
    refine hK.out _ _ ?_ (fun hHeld2 => ?_)
    · exact ⟨bwA0, hC⟩
    clear hK K hHeld hHeld2
    have hHeld : Below w6.heap.size w6 wA0 ∧ Below wA0.heap.size wA0 wA0 := ⟨bwA0, zwA0⟩
    refine held_mono (S' := fun W => Below w6.heap.size w6 W ∧ Below wA0.heap.size wA0 W) (fun W hW => ⟨hW.1, hC.trans (hW.2.mono hC.size)⟩) _ _ _ _ ?_
    clear hC
    refine wpAnyH_take (i := 14) (v := ?_) rfl (by kernel_rfl) (by kernel_rfl) (by kernel_rfl) (fun _ _ _ h => h) (Or.inl ⟨by rfl, ?_⟩) (by assumption) ?_
    rotate_left
    · intro W0 hSw; obtain ⟨hSa, hSb⟩ := hSw; go_simp; all_goals (with_reducible rfl)
    try simp only [Act.put, List.getElem_toArray, List.getElem_cons_succ, List.getElem_cons_zero, List.setIfInBounds_toArray, List.set_cons_zero, List.set_cons_succ]
    refine wpAnyH_take (i := 15) (v := ?_) rfl (by kernel_rfl) (by kernel_rfl) (by kernel_rfl) (fun _ _ _ h => h) (Or.inl ⟨by rfl, ?_⟩) (by assumption) ?_
    rotate_left
    · intro W0 hSw; obtain ⟨hSa, hSb⟩ := hSw; go_simp; all_goals (with_reducible rfl)
    try simp only [Act.put, List.getElem_toArray, List.getElem_cons_succ, List.getElem_cons_zero, List.setIfInBounds_toArray, List.set_cons_zero, List.set_cons_succ]
    refine wpAnyH_take (i := 16) (v := ?_) rfl (by kernel_rfl) (by kernel_rfl) (by kernel_rfl) (fun _ _ _ h => h) (Or.inl ⟨by rfl, ?_⟩) (by assumption) ?_
    rotate_left
    · intro W0 hSw; obtain ⟨hSa, hSb⟩ := hSw; go_simp; all_goals (with_reducible rfl)
    try simp only [Act.put, List.getElem_toArray, List.getElem_cons_succ, List.getElem_cons_zero, List.setIfInBounds_toArray, List.set_cons_zero, List.set_cons_succ]
    refine wpAnyH_take (i := 17) (v := ?_) rfl (by kernel_rfl) (by kernel_rfl) (by kernel_rfl) (fun _ _ _ h => h) (Or.inl ⟨by rfl, ?_⟩) (by assumption) ?_
    rotate_left
    · intro W0 hSw; obtain ⟨hSa, hSb⟩ := hSw; go_simp; all_goals (with_reducible rfl)
    try simp only [Act.put, List.getElem_toArray, List.getElem_cons_succ, List.getElem_cons_zero, List.setIfInBounds_toArray, List.set_cons_zero, List.set_cons_succ]
    refine wpAnyH_take (i := 18) (v := ?_) rfl (by kernel_rfl) (by kernel_rfl) (by kernel_rfl) (fun _ _ _ h => h) (Or.inl ⟨by rfl, ?_⟩) (by assumption) ?_
    rotate_left
    · intro W0 hSw; obtain ⟨hSa, hSb⟩ := hSw; go_simp; all_goals (with_reducible rfl)
    try simp only [Act.put, List.getElem_toArray, List.getElem_cons_succ, List.getElem_cons_zero, List.setIfInBounds_toArray, List.set_cons_zero, List.set_cons_succ]
    refine wpAnyH_take (i := 19) (v := ?_) rfl (by kernel_rfl) (by kernel_rfl) (by kernel_rfl) (fun _ _ _ h => h) (Or.inl ⟨by rfl, ?_⟩) (by assumption) ?_
    rotate_left
    · intro W0 hSw; obtain ⟨hSa, hSb⟩ := hSw; go_simp; all_goals (with_reducible rfl)
    try simp only [Act.put, List.getElem_toArray, List.getElem_cons_succ, List.getElem_cons_zero, List.setIfInBounds_toArray, List.set_cons_zero, List.set_cons_succ]
    refine wpAnyH_take (i := 20) (v := ?_) rfl (by kernel_rfl) (by kernel_rfl) (by kernel_rfl) (fun _ _ _ h => h) (Or.inl ⟨by rfl, ?_⟩) (by assumption) ?_
    rotate_left
    · intro W0 hSw; obtain ⟨hSa, hSb⟩ := hSw; go_simp; all_goals (with_reducible rfl)
    try simp only [Act.put, List.getElem_toArray, List.getElem_cons_succ, List.getElem_cons_zero, List.setIfInBounds_toArray, List.set_cons_zero, List.set_cons_succ]
    refine wpAnyH_take (i := 21) (v := ?_) rfl (by kernel_rfl) (by kernel_rfl) (by kernel_rfl) (fun _ _ _ h => h) (Or.inl ⟨by rfl, ?_⟩) (by assumption) ?_
    rotate_left
    · intro W0 hSw; obtain ⟨hSa, hSb⟩ := hSw; go_simp; all_goals (with_reducible rfl)
    try simp only [Act.put, List.getElem_toArray, List.getElem_cons_succ, List.getElem_cons_zero, List.setIfInBounds_toArray, List.set_cons_zero, List.set_cons_succ]
    refine wpAnyH_take (i := 22) (v := ?_) rfl (by kernel_rfl) (by kernel_rfl) (by kernel_rfl) (fun _ _ _ h => h) (Or.inl ⟨by rfl, ?_⟩) (by assumption) ?_
    rotate_left
    · intro W0 hSw; obtain ⟨hSa, hSb⟩ := hSw; go_simp; all_goals (with_reducible rfl)
    try simp only [Act.put, List.getElem_toArray, List.getElem_cons_succ, List.getElem_cons_zero, List.setIfInBounds_toArray, List.set_cons_zero, List.set_cons_succ]
    refine wpAnyH_take (i := 23) (v := ?_) rfl (by kernel_rfl) (by kernel_rfl) (by kernel_rfl) (fun _ _ _ h => h) (Or.inl ⟨by rfl, ?_⟩) (by assumption) ?_
    rotate_left
    · intro W0 hSw; obtain ⟨hSa, hSb⟩ := hSw; go_simp; all_goals (with_reducible rfl)
    try simp only [Act.put, List.getElem_toArray, List.getElem_cons_succ, List.getElem_cons_zero, List.setIfInBounds_toArray, List.set_cons_zero, List.set_cons_succ]
    refine wpAnyH_take (i := 24) (v := ?_) rfl (by kernel_rfl) (by kernel_rfl) (by kernel_rfl) (fun _ _ _ h => h) (Or.inl ⟨by rfl, ?_⟩) (by assumption) ?_
    rotate_left
    · intro W0 hSw; obtain ⟨hSa, hSb⟩ := hSw; go_simp; all_goals (with_reducible rfl)
    try simp only [Act.put, List.getElem_toArray, List.getElem_cons_succ, List.getElem_cons_zero, List.setIfInBounds_toArray, List.set_cons_zero, List.set_cons_succ]
    refine wpAnyH_done (by kernel_rfl) ?_ _
    go_wp2_with fail
    go_ret
    exact ⟨rfl, HB.out.trans (hHeld.1.mono HB.out.size)⟩

end Go.Proofs.YtjikppjlkicgpaaDoor.hashesTurns
