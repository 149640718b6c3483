/-
  SetsBack: texts that are put in are in it, each once, in whichever order; what is moved is in just the other one; what is taken out is in none.
-/
import Derived.Test.YtmdkegamfjkfbaaDoorSetsBackLoop
import Derived.Test.YtmdkegamfjkfbaaDoorSetMove
import Derived.Test.YtmdkegamfjkfbaaDoorRefVal3
import Derived.Deep.QuietTactic
import Derived.Deep.DeepCutAuto
import Derived.BigQuiet
import Derived.StillTailTactics
import Derived.Deep.RegionLaw
namespace Go.Proofs.YtmdkegamfjkfbaaDoor.setsBack
open Go.RowKit Kit StrT RowG BOrd ValT StoT ReplyT ReplyMath ValM BytesIn DoT Low SetT NumL NumMath SetM SaidT RefR DoV LawK SetL RefV
set_option linter.unusedVariables false
set_option maxRecDepth 100000
-- ASKS: NumL.Gt


theorem same_self (d : V) : sameB d d = true := decide_eq_true rfl
theorem mov_to {f : FuncId} {ar : Array Value} {W : World} {x : V × V × List UInt8} {a b : V} {l : List UInt8} (h : x = (a, b, l)) (c : Calls Tryd.prog f ar W (MovP x.1 x.2.1 x.2.2 W)) : Calls Tryd.prog f ar W (MovP a b l W) := by
  rw [h] at c
  exact c
theorem mov_new {A : List (List UInt8)} {s : List UInt8} (h : s ∈ A) : moveD (setV A) (setV []) s = (setV (remS A [s]), setV [s], int 1) := by
  unfold moveD
  rw [if_pos ⟨setV_kind A, setV_kind []⟩, setV_l, setV_l, if_pos h]
  rfl
theorem out_both (s : List UInt8) : rowD 1 [s] [s, s] = ([], int 1) := by
  have e : remS [s] [s, s] = [] := rem_all (fun x hx => by simpa using hx)
  show (remS [s] [s, s], int (([s].length : Int) - ((remS [s] [s, s]).length : Int))) = _
  rw [e]
  rfl

set_option maxHeartbeats 16000000 in
theorem walk (q : Option Addr) (L : List (List UInt8)) (n c : Nat) (a : Int) (s : ByteArray) (w : World) (hL : L.length = n) (h : StrT.Ss w q L) (hz : ∀ s ∈ L, s.length ≤ 140737488351232) (hcap : n ≤ c) (hcm : c ≤ 9223372036854775807) (hnil : q = none → c = 0) (a0 : 0 ≤ a) (a1 : a ≤ 255) (hsz : s.size ≤ 140737488351232) (hg : Gt w) :
    Calls Tryd.prog 4 #[.slice q n c, .int .u8 a, .string s] w fun e w' => e = .returned (.bool true) ∧ Below w.heap.size w w' := by
  obtain ⟨an, rfl⟩ : ∃ an : Nat, a = (an : Int) := ⟨a.toNat, by omega⟩
  have HG := Lib.hid (fun W (h : Below w.heap.size w W) => hg.keep h)
  have C0 := Lib.hid (shown_any w hg)
  obtain ⟨m, hm⟩ : ∃ m : Nat, m = min n 10 := ⟨_, rfl⟩
  have HM := Lib.hid hm
  have hm10 : m ≤ 10 := by omega
  have HLn := Lib.hid hL
  have HS := Lib.hid h
  have HZ := Lib.hid hz
  have HCm := Lib.hid hcm
  obtain ⟨S, hS⟩ : ∃ S : ByteArray, S = if s.size ≤ 20 then s else s.extract 0 20 := ⟨_, rfl⟩
  have hSz := cutN hS
  obtain ⟨ms, hms⟩ : ∃ ms : Nat, ms = min s.size 20 := ⟨_, rfl⟩
  have hminms : min (s.size : Int) 20 = (ms : Int) := by omega
  have slS : ∀ W, (Instr.slice 9 (.string s) none (some (.int .i64 (ms : Int))) none).run Tryd.prog W = .ok (.string S) W := fun W => by
    have h := run_slice_string_h (P := Tryd.prog) W 9 s Tryd.underlying9 .i64 (ms : Int) (by omega) (by omega)
    rw [h, hS]
    split
    · rw [show ((ms : Nat) : Int).toNat = s.size by omega, ByteArray.extract_zero_size]
    · rw [show ((ms : Nat) : Int).toNat = 20 by omega]
  clear hS hms
  obtain ⟨kx, hkx⟩ : ∃ kx : Nat, kx = an % (m + 1) := ⟨_, rfl⟩
  have HKx := Lib.hid (show kx ≤ m from by have := Nat.mod_lt an (show 0 < m + 1 by omega); omega)
  have HJ := Lib.hid (show (an : Int) % ((m : Int) + 1) = (kx : Int) by rw [hkx, Int.natCast_emod, Int.natCast_add]; rfl)
  clear h hz hg hL hnil hm hcm hkx a0
  go_enter Tryd.func4, Tryd.ntmps4
  go_wp2_with fail
  with_reducible refine C0.out.mono ?_
  rintro e w1 ⟨rfl, hb1⟩
  have HB1 := Lib.hid hb1
  have HO := Lib.hid (ownR_new strE w.heap.size w1 w1.heap.size rfl hb1.size)
  have HBw := Lib.hid (HB1.out.trans ((Kit.below1 w1 (.cells #[] 9)).mono HB1.out.size))
  clear hb1 C0
  go_wp2_with fail
  rename_i K0 hK0
  refine loop1_any w _ q L n c m w1.heap.size (fun i => (wd L i).take 20) HBw.out HLn.out hcap HCm.out HS.out HZ.out HM.out rfl HO.out _ ?_
  intro v9 v33 v34 v35 v36 v37 v38 v39 v40 v41 v42 v43 v44 v45 v46 v47 v48 v49 v50 v51 v52 v53 v54 v55 v56 row wx ho hB
  refine hK0 _ _ ?_
  clear HO HBw HB1 hK0
  generalize (fun i => (wd L i).take 20) = vl at ho
  obtain ⟨Wl, hWl⟩ : ∃ Wl, Wl = (List.range m).map vl := ⟨_, rfl⟩
  rw [← hWl] at ho
  have HWl := Lib.hid (show ∀ j, j < m → wd Wl j = vl j from fun j hj => by rw [hWl]; exact wd_vl vl hj)
  have hWn : Wl.length = m := by rw [hWl]; simp
  have HWn := Lib.hid hWn
  have HOb := Lib.hid (OwnR.blt ho)
  obtain ⟨q8, c8, rfl, h1, h2, h3, h4, h5⟩ := OwnR.ans ho
  have HSw := Lib.hid (rs_ss.1 h1)
  have HB := Lib.hid hB
  rw [hWn] at h3 HOb ⊢
  have HCap := Lib.hid (show m ≤ c8 ∧ c8 ≤ 9223372036854775807 from ⟨h3, h4⟩)
  clear ho hB h1 h2 h3 h4 h5 hWl hWn HS HZ HLn HCm HM hcap
  have z1 : ((m : Int) + 1 == 0) = false := by rw [beq_eq_false_iff_ne]; omega
  have z2 : ¬ (m : Int) + 1 = 0 := by omega
  have z3 : ¬ m + 1 = 0 := by omega
  have z4 : (m : Int) + 1 ≤ 11 := by omega
  go_wp2_with fail
  rename_i K0 hK0
  rw [HJ.out]
  have HV1 := Lib.hid (VB.new (pv0_in wx))
  have HV2 := Lib.hid (VB.new (pv0_in (wx.alloc (.cells #[.int .u8 0, .string ⟨#[]⟩, .slice none 0 0, .slice none 0 0, .slice none 0 0] 26))))
  have HB3 := Lib.hid (show Below wx.heap.size wx ((wx.alloc (.cells #[.int .u8 0, .string ⟨#[]⟩, .slice none 0 0, .slice none 0 0, .slice none 0 0] 26)).alloc (.cells #[.int .u8 0, .string ⟨#[]⟩, .slice none 0 0, .slice none 0 0, .slice none 0 0] 26)) from ((Below.refl _ _).alloc (Nat.le_refl _) _).alloc (by simp) _)
  have HA := Lib.hid (show VB ((wx.alloc (.cells #[.int .u8 0, .string ⟨#[]⟩, .slice none 0 0, .slice none 0 0, .slice none 0 0] 26)).alloc (.cells #[.int .u8 0, .string ⟨#[]⟩, .slice none 0 0, .slice none 0 0, .slice none 0 0] 26)) wx.heap.size pv0 from HV1.out.keep (Kit.below1 _ _))
  have HBb := Lib.hid (show VB ((wx.alloc (.cells #[.int .u8 0, .string ⟨#[]⟩, .slice none 0 0, .slice none 0 0, .slice none 0 0] 26)).alloc (.cells #[.int .u8 0, .string ⟨#[]⟩, .slice none 0 0, .slice none 0 0, .slice none 0 0] 26)) (wx.heap.size + 1) pv0 from by
    have := HV2.out
    rw [show (wx.alloc (.cells #[.int .u8 0, .string ⟨#[]⟩, .slice none 0 0, .slice none 0 0, .slice none 0 0] 26)).heap.size = wx.heap.size + 1 by simp] at this
    exact this)
  have HBw := Lib.hid (HB.out.trans (HB3.out.mono HB.out.size))
  have HSw3 := Lib.hid (HSw.out.keep HB3.out)
  have HWs := Lib.hid HB.out.size
  refine loop2_any w _ q8 Wl c8 m kx wx.heap.size (wx.heap.size + 1) vl HG.out HBw.out HWn.out HCap.out.1 HCap.out.2 HSw3.out (fun b hb => by have h := (HOb.out b.block (by rw [hb]; rfl)).2; omega) hm10 HKx.out HWl.out HA.out HBb.out (by omega) HWs.out (Nat.le_succ_of_le HWs.out) _ ?_
  intro v13 v70 v71 v72 v73 v74 v75 v76 v77 v78 v79 v80 v81 v82 v83 v84 v85 v86 v87 v88 v89 v90 v91 v92 v93 v94 v95 v96 v97 v98 v99 v100 v101 v102 v103 v104 wy p r hDp hDr hVp hVr hSy hB
  refine hK0 _ _ ?_
  generalize wx.heap.size = ga at hVp hVr ⊢
  rw [pair_put] at hDr
  obtain ⟨k1, S1, ql1, nl1, cl1, qh1, nh1, ch1, qz1, nz1, cz1, d1⟩ := p
  obtain ⟨k2, S2, ql2, nl2, cl2, qh2, nh2, ch2, qz2, nz2, cz2, d2⟩ := r
  have HIn := Lib.hid (show ∀ j, j < m → wd Wl j ∈ putT vl (List.range m) from fun j hj => by rw [HWl.out j hj]; exact (put_mem vl _ _).2 ⟨j, List.mem_range.2 hj, rfl⟩)
  have HFl := Lib.hid (show (putT vl (List.range m)).length ≤ 10 from Nat.le_trans (put_len vl _) (by simp; omega))
  have HUp := Lib.hid (put_up vl (List.range m))
  have hDp : d1 = setV (putT vl (List.range m)) := hDp
  have hDr : d2 = setV (putT vl (List.range m)) := hDr
  generalize putT vl (List.range m) = F at hDp hDr HIn HFl HUp
  have HD1 := Lib.hid (show PV.d ⟨k1, S1, ql1, nl1, cl1, qh1, nh1, ch1, qz1, nz1, cz1, d1⟩ = setV F from hDp)
  have CS := Lib.hid (rsame k1 S1 ql1 nl1 cl1 qh1 nh1 ch1 qz1 nz1 cz1 d1 k2 S2 ql2 nl2 cl2 qh2 nh2 ch2 qz2 nz2 cz2 d2 wy hVp.pv hVr.pv)
  rw [show sameB d1 d2 = true by rw [hDp, hDr]; exact same_self _] at CS
  have HV1 := Lib.hid hVp
  have HVr := Lib.hid hVr
  have HSw := Lib.hid hSy
  have HB := Lib.hid hB
  obtain ⟨-, -, ra0, ra1, ra2, ra3, ra4⟩ := HV1.out.room
  dsimp only at ra0 ra1 ra2 ra3 ra4
  obtain ⟨-, -, rb0, rb1, rb2, rb3, rb4⟩ := HVr.out.room
  dsimp only at rb0 rb1 rb2 rb3 rb4
  clear hDp hDr hVp hVr hSy hB HA HBb HBw HSw3 HWs hK0 HV2 HB3 HOb HWl HKx HJ z1 z2 z3 z4
  go_wp2_with fail
  clear ra0 ra1 ra2 ra3 ra4 rb0 rb1 rb2 rb3 rb4
  with_reducible refine CS.out.mono ?_
  rintro e w5 ⟨rfl, hb5⟩
  have HV1 := Lib.hid (HV1.out.keep hb5)
  have HSw := Lib.hid (HSw.out.keep hb5)
  have HB := Lib.hid (HB.out.trans (hb5.mono HB.out.size))
  clear hb5 CS HVr
  have HGu := Lib.hid (ins_up S.data.toList HUp.out)
  have HGi := Lib.hid (show S.data.toList ∈ insS F S.data.toList from (ins_mem _ _ _).2 (Or.inl rfl))
  have HGl := Lib.hid (show (insS F S.data.toList).length ≤ 11 from by have := (ins_le F S.data.toList HUp.out).2; have := HFl.out; omega)
  have C1 := Lib.hid (fun (W Y : World) (g : Nat) (hY : Below (W.alloc (.cells #[.string ⟨#[115, 97, 100, 100]⟩, .string ⟨#[107]⟩, .string S] 9)).heap.size (W.alloc (.cells #[.string ⟨#[115, 97, 100, 100]⟩, .string ⟨#[107]⟩, .string S] 9)) Y) (hgw : g = W.heap.size) (hW : Below w.heap.size w W) (hpv : PV.In W ⟨k1, S1, ql1, nl1, cl1, qh1, nh1, ch1, qz1, nz1, cz1, d1⟩) (hdv : PV.d ⟨k1, S1, ql1, nl1, cl1, qh1, nh1, ch1, qz1, nz1, cz1, d1⟩ = setV (F)) => (show Calls Tryd.prog 11 #[.agg #[.int .u8 k1, .string S1, .slice ql1 nl1 cl1, .slice qh1 nh1 ch1, .slice qz1 nz1 cz1], .slice (some ⟨g, 0, none⟩) 3 3] Y (DoN (setV (insS F S.data.toList)) ((rowD 0 F [S.data.toList]).2) W) from by subst hgw; exact don_to (add_one _ _) (on3 0 (by decide) ⟨#[115, 97, 100, 100]⟩ ⟨#[107]⟩ S (by decide) (by decide) (by decide) ⟨k1, S1, ql1, nl1, cl1, qh1, nh1, ch1, qz1, nz1, cz1, d1⟩ (F) W Y hY hpv hdv (HG.out W hW) (tame0 HUp.out (by have := HFl.out; simp; omega)))))
  obtain ⟨-, -, ra0, ra1, ra2, ra3, ra4⟩ := HV1.out.room
  dsimp only at ra0 ra1 ra2 ra3 ra4
  go_wp2_with fail
  clear ra0 ra1 ra2 ra3 ra4
  with_reducible refine (C1.out w5 _ _ (Below.refl _ _) rfl HB.out HV1.out.pv HD1.out).mono ?_
  rintro e wa ⟨p3, vr3, rfl, hI, hd, hn, hA, hb⟩
  obtain ⟨k3, S3, ql3, nl3, cl3, qh3, nh3, ch3, qz3, nz3, cz3, d3⟩ := p3
  dsimp only [PV.agg]
  have hbn := hb.trans ((Kit.below1 wa (.cells #[.int .u8 k3, .string S3, .slice ql3 nl3 cl3, .slice qh3 nh3 ch3, .slice qz3 nz3 cz3] 26)).mono hb.size)
  have HV1 := Lib.hid (HV1.out.keep hbn)
  have HSw := Lib.hid (HSw.out.keep hbn)
  have HB := Lib.hid (HB.out.trans (hbn.mono HB.out.size))
  have HV3 := Lib.hid (show VB _ wa.heap.size ⟨k3, S3, ql3, nl3, cl3, qh3, nh3, ch3, qz3, nz3, cz3, d3⟩ from VB.new hI)
  have HD3 := Lib.hid (show PV.d ⟨k3, S3, ql3, nl3, cl3, qh3, nh3, ch3, qz3, nz3, cz3, d3⟩ = _ from hd)
  have HL3 := Lib.hid (show w5.heap.size ≤ wa.heap.size from Below.size hb)
  clear hI hd hn hA hb hbn
  go_upto_region 18 with fail
  generalize hgg : wa.heap.size = g3 at HV3 HL3 ⊢
  clear hgg
  generalize wa.alloc (.cells #[.int .u8 k3, .string S3, .slice ql3 nl3 cl3, .slice qh3 nh3 ch3, .slice qz3 nz3 cz3] 26) = w6 at HV3 HV1 HSw HB ⊢
  clear C1 HL3
  have C1 := Lib.hid (fun (W Y : World) (g : Nat) (hY : Below (W.alloc (.cells #[.string ⟨#[115, 105, 115, 109, 101, 109, 98, 101, 114]⟩, .string ⟨#[107]⟩, .string S] 9)).heap.size (W.alloc (.cells #[.string ⟨#[115, 105, 115, 109, 101, 109, 98, 101, 114]⟩, .string ⟨#[107]⟩, .string S] 9)) Y) (hgw : g = W.heap.size) (hW : Below w.heap.size w W) (hpv : PV.In W ⟨k3, S3, ql3, nl3, cl3, qh3, nh3, ch3, qz3, nz3, cz3, d3⟩) (hdv : PV.d ⟨k3, S3, ql3, nl3, cl3, qh3, nh3, ch3, qz3, nz3, cz3, d3⟩ = setV (insS F S.data.toList)) => (show Calls Tryd.prog 11 #[.agg #[.int .u8 k3, .string S3, .slice ql3 nl3 cl3, .slice qh3 nh3 ch3, .slice qz3 nz3 cz3], .slice (some ⟨g, 0, none⟩) 3 3] Y (DoN (setV (insS F S.data.toList)) (int 1) W) from by subst hgw; exact don_to (is_in HGi.out) (on3 2 (by decide) ⟨#[115, 105, 115, 109, 101, 109, 98, 101, 114]⟩ ⟨#[107]⟩ S (by decide) (by decide) (by decide) ⟨k3, S3, ql3, nl3, cl3, qh3, nh3, ch3, qz3, nz3, cz3, d3⟩ (insS F S.data.toList) W Y hY hpv hdv (HG.out W hW) (tame2 HGu.out (Nat.le_refl 1)))))
  obtain ⟨-, -, ra0, ra1, ra2, ra3, ra4⟩ := HV3.out.room
  dsimp only at ra0 ra1 ra2 ra3 ra4
  go_wp2_with fail
  clear ra0 ra1 ra2 ra3 ra4
  with_reducible refine (C1.out w6 _ _ (Below.refl _ _) rfl HB.out HV3.out.pv HD3.out).mono ?_
  rintro e wa ⟨p4, vr4, rfl, hI, hd, hn, hA, hb⟩
  obtain ⟨k4, S4, ql4, nl4, cl4, qh4, nh4, ch4, qz4, nz4, cz4, d4⟩ := p4
  dsimp only [PV.agg]
  obtain ⟨qr4, cr4, rfl, hv4⟩ := ans_text hA 4 (by decide +kernel) ⟨#[58, 49, 13, 10]⟩ (by decide +kernel)
  have hbn := hb.trans ((Kit.below1 wa (.cells #[.int .u8 k4, .string S4, .slice ql4 nl4 cl4, .slice qh4 nh4 ch4, .slice qz4 nz4 cz4] 26)).mono hb.size)
  have HV1 := Lib.hid (HV1.out.keep hbn)
  have HSw := Lib.hid (HSw.out.keep hbn)
  have HV3 := Lib.hid (HV3.out.keep hbn)
  have HB := Lib.hid (HB.out.trans (hbn.mono HB.out.size))
  have HV4 := Lib.hid (show VB _ wa.heap.size ⟨k4, S4, ql4, nl4, cl4, qh4, nh4, ch4, qz4, nz4, cz4, d4⟩ from VB.new hI)
  have HD4 := Lib.hid (show PV.d ⟨k4, S4, ql4, nl4, cl4, qh4, nh4, ch4, qz4, nz4, cz4, d4⟩ = _ from hd)
  have hbx := Kit.below1 wa (.cells #[.int .u8 k4, .string S4, .slice ql4 nl4 cl4, .slice qh4 nh4 ch4, .slice qz4 nz4 cz4] 26)
  have HC4 := Lib.hid (fun W hW => hv4 W (hbx.trans (Below.mono hW hbx.size)))
  clear hbx
  have HL4 := Lib.hid (show w6.heap.size ≤ wa.heap.size from Below.size hb)
  clear hI hd hn hA hb hbn hv4
  go_upto_region 19 with fail
  generalize hgg : wa.heap.size = g4 at HV4 HL4 ⊢
  clear hgg
  generalize wa.alloc (.cells #[.int .u8 k4, .string S4, .slice ql4 nl4 cl4, .slice qh4 nh4 ch4, .slice qz4 nz4 cz4] 26) = w7 at HV4 HV1 HSw HV3 HB HC4 ⊢
  clear C1 HL4
  clear HV4 HD4
  have CM := Lib.hid (show Calls Tryd.prog 12 #[.agg #[.int .u8 k3, .string S3, .slice ql3 nl3 cl3, .slice qh3 nh3 ch3, .slice qz3 nz3 cz3], .agg #[.int .u8 0, .string ⟨#[]⟩, .slice none 0 0, .slice none 0 0, .slice none 0 0], .string S] w7 (MovP (setV (remS (insS F S.data.toList) [S.data.toList])) (setV [S.data.toList]) (int 1) w7) from mov_to (show moveD d3 v0 S.data.toList = _ by rw [show d3 = setV (insS F S.data.toList) from HD3.out]; exact mov_new HGi.out) (move_any ⟨k3, S3, ql3, nl3, cl3, qh3, nh3, ch3, qz3, nz3, cz3, d3⟩ pv0 (insS F S.data.toList) [] S w7 HV3.out.pv (pv0_in w7) HD3.out rfl HGu.out rises_nil (by decide) (HG.out w7 HB.out)))
  obtain ⟨-, -, ra0, ra1, ra2, ra3, ra4⟩ := HV3.out.room
  dsimp only at ra0 ra1 ra2 ra3 ra4
  go_wp2_with fail
  clear ra0 ra1 ra2 ra3 ra4
  with_reducible refine CM.out.mono ?_
  rintro e wa ⟨p5, p6, vr, rfl, hI5, hI6, hd5, hd6, -, -, hA, hb⟩
  obtain ⟨k5, S5, ql5, nl5, cl5, qh5, nh5, ch5, qz5, nz5, cz5, d5⟩ := p5
  obtain ⟨k6, S6, ql6, nl6, cl6, qh6, nh6, ch6, qz6, nz6, cz6, d6⟩ := p6
  dsimp only [PV.agg]
  obtain ⟨qr, cr, rfl, hv⟩ := ans_text hA 4 (by decide +kernel) ⟨#[58, 49, 13, 10]⟩ (by decide +kernel)
  have hbx : Below wa.heap.size wa ((wa.alloc (.cells #[.int .u8 k5, .string S5, .slice ql5 nl5 cl5, .slice qh5 nh5 ch5, .slice qz5 nz5 cz5] 26)).alloc (.cells #[.int .u8 k6, .string S6, .slice ql6 nl6 cl6, .slice qh6 nh6 ch6, .slice qz6 nz6 cz6] 26)) := (Kit.below1 _ _).trans ((Kit.below1 _ _).mono (Below.size (Kit.below1 _ _)))
  have hbn := hb.trans (hbx.mono hb.size)
  have HV1 := Lib.hid (HV1.out.keep hbn)
  have HSw := Lib.hid (HSw.out.keep hbn)
  have HV3 := Lib.hid (HV3.out.keep hbn)
  have HB := Lib.hid (HB.out.trans (hbn.mono HB.out.size))
  have HC5 := Lib.hid (fun W hW => hv W (hbx.trans (Below.mono hW hbx.size)))
  have HC4 := Lib.hid (fun W hW => HC4.out W (hbn.trans (Below.mono hW hbn.size)))
  have HV5 := Lib.hid (show VB ((wa.alloc (.cells #[.int .u8 k5, .string S5, .slice ql5 nl5 cl5, .slice qh5 nh5 ch5, .slice qz5 nz5 cz5] 26)).alloc (.cells #[.int .u8 k6, .string S6, .slice ql6 nl6 cl6, .slice qh6 nh6 ch6, .slice qz6 nz6 cz6] 26)) wa.heap.size ⟨k5, S5, ql5, nl5, cl5, qh5, nh5, ch5, qz5, nz5, cz5, d5⟩ from (VB.new hI5).keep (Kit.below1 _ _))
  have HV6 := Lib.hid (show VB ((wa.alloc (.cells #[.int .u8 k5, .string S5, .slice ql5 nl5 cl5, .slice qh5 nh5 ch5, .slice qz5 nz5 cz5] 26)).alloc (.cells #[.int .u8 k6, .string S6, .slice ql6 nl6 cl6, .slice qh6 nh6 ch6, .slice qz6 nz6 cz6] 26)) (wa.heap.size + 1) ⟨k6, S6, ql6, nl6, cl6, qh6, nh6, ch6, qz6, nz6, cz6, d6⟩ from by
    have h := VB.new (p := ⟨k6, S6, ql6, nl6, cl6, qh6, nh6, ch6, qz6, nz6, cz6, d6⟩) (pv_keep hI6 (Kit.below1 wa (.cells #[.int .u8 k5, .string S5, .slice ql5 nl5 cl5, .slice qh5 nh5 ch5, .slice qz5 nz5 cz5] 26)))
    rw [show (wa.alloc (.cells #[.int .u8 k5, .string S5, .slice ql5 nl5 cl5, .slice qh5 nh5 ch5, .slice qz5 nz5 cz5] 26)).heap.size = wa.heap.size + 1 by simp] at h
    exact h)
  have HD5 := Lib.hid (show PV.d ⟨k5, S5, ql5, nl5, cl5, qh5, nh5, ch5, qz5, nz5, cz5, d5⟩ = _ from hd5)
  have HD6 := Lib.hid (show PV.d ⟨k6, S6, ql6, nl6, cl6, qh6, nh6, ch6, qz6, nz6, cz6, d6⟩ = _ from hd6)
  clear hI5 hI6 hd5 hd6 hA hb hbx hbn hv CM
  go_upto_region 20 with fail
  generalize hgg : wa.heap.size = g5 at HV5 HV6 ⊢
  clear hgg
  obtain ⟨g6, hg6⟩ : ∃ g6, g5 + 1 = g6 := ⟨_, rfl⟩
  rw [hg6] at HV6 ⊢
  clear hg6
  generalize (wa.alloc (.cells #[.int .u8 k5, .string S5, .slice ql5 nl5 cl5, .slice qh5 nh5 ch5, .slice qz5 nz5 cz5] 26)).alloc (.cells #[.int .u8 k6, .string S6, .slice ql6 nl6 cl6, .slice qh6 nh6 ch6, .slice qz6 nz6 cz6] 26) = w8 at HV5 HV6 HB HC5 HV1 HSw HV3 HC4 ⊢
  have HRu := Lib.hid (rem_up [S.data.toList] HGu.out)
  have HRo := Lib.hid (show S.data.toList ∉ remS (insS F S.data.toList) [S.data.toList] from fun h => by simpa using ((rem_mem _ _ _).1 h).2)
  have C1 := Lib.hid (fun (W Y : World) (g : Nat) (hY : Below (W.alloc (.cells #[.string ⟨#[115, 105, 115, 109, 101, 109, 98, 101, 114]⟩, .string ⟨#[107]⟩, .string S] 9)).heap.size (W.alloc (.cells #[.string ⟨#[115, 105, 115, 109, 101, 109, 98, 101, 114]⟩, .string ⟨#[107]⟩, .string S] 9)) Y) (hgw : g = W.heap.size) (hW : Below w.heap.size w W) (hpv : PV.In W ⟨k5, S5, ql5, nl5, cl5, qh5, nh5, ch5, qz5, nz5, cz5, d5⟩) (hdv : PV.d ⟨k5, S5, ql5, nl5, cl5, qh5, nh5, ch5, qz5, nz5, cz5, d5⟩ = setV (remS (insS F S.data.toList) [S.data.toList])) => (show Calls Tryd.prog 11 #[.agg #[.int .u8 k5, .string S5, .slice ql5 nl5 cl5, .slice qh5 nh5 ch5, .slice qz5 nz5 cz5], .slice (some ⟨g, 0, none⟩) 3 3] Y (DoN (setV (remS (insS F S.data.toList) [S.data.toList])) (int 0) W) from by subst hgw; exact don_to (is_out HRo.out) (on3 2 (by decide) ⟨#[115, 105, 115, 109, 101, 109, 98, 101, 114]⟩ ⟨#[107]⟩ S (by decide) (by decide) (by decide) ⟨k5, S5, ql5, nl5, cl5, qh5, nh5, ch5, qz5, nz5, cz5, d5⟩ (remS (insS F S.data.toList) [S.data.toList]) W Y hY hpv hdv (HG.out W hW) (tame2 HRu.out (Nat.le_refl 1)))))
  obtain ⟨-, -, ra0, ra1, ra2, ra3, ra4⟩ := HV5.out.room
  dsimp only at ra0 ra1 ra2 ra3 ra4
  go_wp2_with fail
  clear ra0 ra1 ra2 ra3 ra4
  with_reducible refine (C1.out w8 _ _ (Below.refl _ _) rfl HB.out HV5.out.pv HD5.out).mono ?_
  rintro e wa ⟨p7, vr7, rfl, hI, hd, hn, hA, hb⟩
  obtain ⟨k7, S7, ql7, nl7, cl7, qh7, nh7, ch7, qz7, nz7, cz7, d7⟩ := p7
  dsimp only [PV.agg]
  obtain ⟨qr7, cr7, rfl, hv7⟩ := ans_text hA 4 (by decide +kernel) ⟨#[58, 48, 13, 10]⟩ (by decide +kernel)
  have hbn := hb.trans ((Kit.below1 wa (.cells #[.int .u8 k7, .string S7, .slice ql7 nl7 cl7, .slice qh7 nh7 ch7, .slice qz7 nz7 cz7] 26)).mono hb.size)
  have HV1 := Lib.hid (HV1.out.keep hbn)
  have HSw := Lib.hid (HSw.out.keep hbn)
  have HV3 := Lib.hid (HV3.out.keep hbn)
  have HV5 := Lib.hid (HV5.out.keep hbn)
  have HV6 := Lib.hid (HV6.out.keep hbn)
  have HC4 := Lib.hid (fun W hW => HC4.out W (hbn.trans (Below.mono hW hbn.size)))
  have HC5 := Lib.hid (fun W hW => HC5.out W (hbn.trans (Below.mono hW hbn.size)))
  have HB := Lib.hid (HB.out.trans (hbn.mono HB.out.size))
  have HV7 := Lib.hid (show VB _ wa.heap.size ⟨k7, S7, ql7, nl7, cl7, qh7, nh7, ch7, qz7, nz7, cz7, d7⟩ from VB.new hI)
  have HD7 := Lib.hid (show PV.d ⟨k7, S7, ql7, nl7, cl7, qh7, nh7, ch7, qz7, nz7, cz7, d7⟩ = _ from hd)
  have hbx := Kit.below1 wa (.cells #[.int .u8 k7, .string S7, .slice ql7 nl7 cl7, .slice qh7 nh7 ch7, .slice qz7 nz7 cz7] 26)
  have HC7 := Lib.hid (fun W hW => hv7 W (hbx.trans (Below.mono hW hbx.size)))
  clear hbx
  have HL7 := Lib.hid (show w8.heap.size ≤ wa.heap.size from Below.size hb)
  clear hI hd hn hA hb hbn hv7
  go_upto_region 21 with fail
  generalize hgg : wa.heap.size = g7 at HV7 HL7 ⊢
  clear hgg
  generalize wa.alloc (.cells #[.int .u8 k7, .string S7, .slice ql7 nl7 cl7, .slice qh7 nh7 ch7, .slice qz7 nz7 cz7] 26) = w9 at HV7 HV1 HSw HV3 HV5 HV6 HC4 HC5 HB HC7 ⊢
  clear C1 HL7
  have C1 := Lib.hid (fun (W Y : World) (g : Nat) (hY : Below (W.alloc (.cells #[.string ⟨#[115, 105, 115, 109, 101, 109, 98, 101, 114]⟩, .string ⟨#[107]⟩, .string S] 9)).heap.size (W.alloc (.cells #[.string ⟨#[115, 105, 115, 109, 101, 109, 98, 101, 114]⟩, .string ⟨#[107]⟩, .string S] 9)) Y) (hgw : g = W.heap.size) (hW : Below w.heap.size w W) (hpv : PV.In W ⟨k6, S6, ql6, nl6, cl6, qh6, nh6, ch6, qz6, nz6, cz6, d6⟩) (hdv : PV.d ⟨k6, S6, ql6, nl6, cl6, qh6, nh6, ch6, qz6, nz6, cz6, d6⟩ = setV ([S.data.toList])) => (show Calls Tryd.prog 11 #[.agg #[.int .u8 k6, .string S6, .slice ql6 nl6 cl6, .slice qh6 nh6 ch6, .slice qz6 nz6 cz6], .slice (some ⟨g, 0, none⟩) 3 3] Y (DoN (setV ([S.data.toList])) (int 1) W) from by subst hgw; exact don_to (is_in (by simp)) (on3 2 (by decide) ⟨#[115, 105, 115, 109, 101, 109, 98, 101, 114]⟩ ⟨#[107]⟩ S (by decide) (by decide) (by decide) ⟨k6, S6, ql6, nl6, cl6, qh6, nh6, ch6, qz6, nz6, cz6, d6⟩ ([S.data.toList]) W Y hY hpv hdv (HG.out W hW) (tame2 (rises1 _) (Nat.le_refl 1)))))
  obtain ⟨-, -, ra0, ra1, ra2, ra3, ra4⟩ := HV6.out.room
  dsimp only at ra0 ra1 ra2 ra3 ra4
  go_wp2_with fail
  clear ra0 ra1 ra2 ra3 ra4
  with_reducible refine (C1.out w9 _ _ (Below.refl _ _) rfl HB.out HV6.out.pv HD6.out).mono ?_
  rintro e wa ⟨p8, vr8, rfl, hI, hd, hn, hA, hb⟩
  obtain ⟨k8, S8, ql8, nl8, cl8, qh8, nh8, ch8, qz8, nz8, cz8, d8⟩ := p8
  dsimp only [PV.agg]
  obtain ⟨qr8, cr8, rfl, hv8⟩ := ans_text hA 4 (by decide +kernel) ⟨#[58, 49, 13, 10]⟩ (by decide +kernel)
  have hbn := hb.trans ((Kit.below1 wa (.cells #[.int .u8 k8, .string S8, .slice ql8 nl8 cl8, .slice qh8 nh8 ch8, .slice qz8 nz8 cz8] 26)).mono hb.size)
  have HV1 := Lib.hid (HV1.out.keep hbn)
  have HSw := Lib.hid (HSw.out.keep hbn)
  have HV3 := Lib.hid (HV3.out.keep hbn)
  have HV5 := Lib.hid (HV5.out.keep hbn)
  have HV6 := Lib.hid (HV6.out.keep hbn)
  have HC4 := Lib.hid (fun W hW => HC4.out W (hbn.trans (Below.mono hW hbn.size)))
  have HC5 := Lib.hid (fun W hW => HC5.out W (hbn.trans (Below.mono hW hbn.size)))
  have HC7 := Lib.hid (fun W hW => HC7.out W (hbn.trans (Below.mono hW hbn.size)))
  have HB := Lib.hid (HB.out.trans (hbn.mono HB.out.size))
  have HV8 := Lib.hid (show VB _ wa.heap.size ⟨k8, S8, ql8, nl8, cl8, qh8, nh8, ch8, qz8, nz8, cz8, d8⟩ from VB.new hI)
  have HD8 := Lib.hid (show PV.d ⟨k8, S8, ql8, nl8, cl8, qh8, nh8, ch8, qz8, nz8, cz8, d8⟩ = _ from hd)
  have hbx := Kit.below1 wa (.cells #[.int .u8 k8, .string S8, .slice ql8 nl8 cl8, .slice qh8 nh8 ch8, .slice qz8 nz8 cz8] 26)
  have HC8 := Lib.hid (fun W hW => hv8 W (hbx.trans (Below.mono hW hbx.size)))
  clear hbx
  have HL8 := Lib.hid (show w9.heap.size ≤ wa.heap.size from Below.size hb)
  clear hI hd hn hA hb hbn hv8
  go_upto_region 22 with fail
  generalize hgg : wa.heap.size = g8 at HV8 HL8 ⊢
  clear hgg
  generalize wa.alloc (.cells #[.int .u8 k8, .string S8, .slice ql8 nl8 cl8, .slice qh8 nh8 ch8, .slice qz8 nz8 cz8] 26) = w10 at HV8 HV1 HSw HV3 HV5 HV6 HC4 HC5 HC7 HB HC8 ⊢
  clear C1 HL8
  have C1 := Lib.hid (fun (W Y : World) (g : Nat) (hY : Below (W.alloc (.cells #[.string ⟨#[115, 114, 101, 109]⟩, .string ⟨#[107]⟩, .string S, .string S] 9)).heap.size (W.alloc (.cells #[.string ⟨#[115, 114, 101, 109]⟩, .string ⟨#[107]⟩, .string S, .string S] 9)) Y) (hgw : g = W.heap.size) (hW : Below w.heap.size w W) (hpv : PV.In W ⟨k6, S6, ql6, nl6, cl6, qh6, nh6, ch6, qz6, nz6, cz6, d6⟩) (hdv : PV.d ⟨k6, S6, ql6, nl6, cl6, qh6, nh6, ch6, qz6, nz6, cz6, d6⟩ = setV ([S.data.toList])) => (show Calls Tryd.prog 11 #[.agg #[.int .u8 k6, .string S6, .slice ql6 nl6 cl6, .slice qh6 nh6 ch6, .slice qz6 nz6 cz6], .slice (some ⟨g, 0, none⟩) 4 4] Y (DoN (setV ([])) (int 1) W) from by subst hgw; exact don_to (out_both _) (on4 1 (by decide) ⟨#[115, 114, 101, 109]⟩ ⟨#[107]⟩ S S (by decide) (by decide) (by decide) ⟨k6, S6, ql6, nl6, cl6, qh6, nh6, ch6, qz6, nz6, cz6, d6⟩ ([S.data.toList]) W Y hY hpv hdv (HG.out W hW) (tame1 (rises1 _) (by simp)))))
  obtain ⟨-, -, ra0, ra1, ra2, ra3, ra4⟩ := HV6.out.room
  dsimp only at ra0 ra1 ra2 ra3 ra4
  go_wp2_with fail
  clear ra0 ra1 ra2 ra3 ra4
  with_reducible refine (C1.out w10 _ _ (Below.refl _ _) rfl HB.out HV6.out.pv HD6.out).mono ?_
  rintro e wa ⟨p9, vr9, rfl, hI, hd, hn, hA, hb⟩
  obtain ⟨k9, S9, ql9, nl9, cl9, qh9, nh9, ch9, qz9, nz9, cz9, d9⟩ := p9
  dsimp only [PV.agg]
  obtain ⟨qr9, cr9, rfl, hv9⟩ := ans_text hA 4 (by decide +kernel) ⟨#[58, 49, 13, 10]⟩ (by decide +kernel)
  have hbn := hb.trans ((Kit.below1 wa (.cells #[.int .u8 k9, .string S9, .slice ql9 nl9 cl9, .slice qh9 nh9 ch9, .slice qz9 nz9 cz9] 26)).mono hb.size)
  have HV1 := Lib.hid (HV1.out.keep hbn)
  have HSw := Lib.hid (HSw.out.keep hbn)
  have HV3 := Lib.hid (HV3.out.keep hbn)
  have HV5 := Lib.hid (HV5.out.keep hbn)
  have HV6 := Lib.hid (HV6.out.keep hbn)
  have HC4 := Lib.hid (fun W hW => HC4.out W (hbn.trans (Below.mono hW hbn.size)))
  have HC5 := Lib.hid (fun W hW => HC5.out W (hbn.trans (Below.mono hW hbn.size)))
  have HC7 := Lib.hid (fun W hW => HC7.out W (hbn.trans (Below.mono hW hbn.size)))
  have HC8 := Lib.hid (fun W hW => HC8.out W (hbn.trans (Below.mono hW hbn.size)))
  have HB := Lib.hid (HB.out.trans (hbn.mono HB.out.size))
  have HV9 := Lib.hid (show VB _ wa.heap.size ⟨k9, S9, ql9, nl9, cl9, qh9, nh9, ch9, qz9, nz9, cz9, d9⟩ from VB.new hI)
  have HD9 := Lib.hid (show PV.d ⟨k9, S9, ql9, nl9, cl9, qh9, nh9, ch9, qz9, nz9, cz9, d9⟩ = _ from hd)
  have hbx := Kit.below1 wa (.cells #[.int .u8 k9, .string S9, .slice ql9 nl9 cl9, .slice qh9 nh9 ch9, .slice qz9 nz9 cz9] 26)
  have HC9 := Lib.hid (fun W hW => hv9 W (hbx.trans (Below.mono hW hbx.size)))
  clear hbx
  have HL9 := Lib.hid (show w10.heap.size ≤ wa.heap.size from Below.size hb)
  clear hI hd hn hA hb hbn hv9
  go_upto_region 23 with fail
  generalize hgg : wa.heap.size = g9 at HV9 HL9 ⊢
  clear hgg
  generalize wa.alloc (.cells #[.int .u8 k9, .string S9, .slice ql9 nl9 cl9, .slice qh9 nh9 ch9, .slice qz9 nz9 cz9] 26) = w11 at HV9 HV1 HSw HV3 HV5 HV6 HC4 HC5 HC7 HC8 HB HC9 ⊢
  clear C1 HL9
  have hc4 := HC4.out w11 (Below.refl _ _)
  have hc5 := HC5.out w11 (Below.refl _ _)
  have hc7 := HC7.out w11 (Below.refl _ _)
  have hc8 := HC8.out w11 (Below.refl _ _)
  have hc9 := HC9.out w11 (Below.refl _ _)
  have hk9 : k9 = 0 := by
    have e1 : k9 = (d9.kind : Int) := VIn.ek HV9.out.pv
    rw [e1, show d9 = setV [] from HD9.out]
    rfl
  subst hk9
  obtain ⟨-, -, ra0, ra1, ra2, ra3, ra4⟩ := HV9.out.room
  dsimp only at ra0 ra1 ra2 ra3 ra4
  clear HC4 HC5 HC7 HC8 HC9 HV7 HV8 HD7 HD8
  go_wp2_with fail
  rename_i K0 hK0
  refine loop3_any w w11 q8 Wl c8 m ga F k1 S1 ql1 nl1 cl1 qh1 nh1 ch1 qz1 nz1 cz1 d1 HG.out HB.out HWn.out HCap.out.1 HCap.out.2 HSw.out hm10 HIn.out HUp.out HV1.out HD1.out _ ?_
  intro v6 v28 v29 v30 v184 v185 v186 v187 v188 v189 v190 v191 v192 v193 v194 v195 v196 v197 v198 v199 v200 v201 v202 wz hbz
  refine hK0 _ _ ?_
  have HV3 := Lib.hid (HV3.out.keep hbz)
  have HV5 := Lib.hid (HV5.out.keep hbz)
  have HB := Lib.hid (HB.out.trans (hbz.mono HB.out.size))
  obtain ⟨e3, -, -⟩ := pv_strs HV3.out.pv HD3.out
  obtain ⟨e5, -, -⟩ := pv_strs HV5.out.pv HD5.out
  dsimp only at e3 e5
  have h53 : nl5 + 1 = nl3 := by rw [e5, e3]; exact rem_one HGu.out _ HGi.out _ (fun x => by simp)
  have y3 : nl3 ≤ 11 := by rw [e3]; exact HGl.out
  have y5 : nl5 ≤ 10 := by omega
  have te : ((nl5 : Int) == (nl3 : Int) - 1) = true := by rw [beq_iff_eq]; omega
  have te2 : ((nl5 : Int) = (nl3 : Int) - 1) := by omega
  obtain ⟨-, -, rb0, rb1, rb2, rb3, rb4⟩ := HV3.out.room
  dsimp only at rb0 rb1 rb2 rb3 rb4
  obtain ⟨-, -, rc0, rc1, rc2, rc3, rc4⟩ := HV5.out.room
  dsimp only at rc0 rc1 rc2 rc3 rc4
  clear h53 e3 e5 te2 hbz hK0 hc4 hc5 hc7 hc8 hc9 ra0 ra1 ra2 ra3 ra4 HV1 HSw HV6 HV9 HD1 HD3 HD5 HD6 HD9 HGu HGi HGl HRu HRo HIn HUp HFl HWn HCap
  go_wp2_with fail
  go_ret
  exact ⟨rfl, HB.out⟩

end Go.Proofs.YtmdkegamfjkfbaaDoor.setsBack
