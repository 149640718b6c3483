/-
  SortedBack: marks that are put in are told with their last numbers, in order, in whichever order they are put; one that is taken out is told no more.
-/
import Derived.Test.YtodpocciimbjbaaDoorSortedBackLoop2
import Derived.Test.YtodpocciimbjbaaDoorIntRow
import Derived.Test.YtodpocciimbjbaaDoorRefVal3
import Derived.Test.YtodpocciimbjbaaDoorRefNull
import Derived.Deep.QuietTactic
import Derived.Deep.DeepCutAuto
import Derived.BigQuiet
import Derived.StillTailTactics
import Derived.Deep.RegionLaw
namespace Go.Proofs.YtodpocciimbjbaaDoor.sortedBack
open Go.RowKit Kit StrT RowG BOrd ValT StoT ReplyT ReplyMath ValM BytesIn DoT Low SrtT NumL NumW NumMath ReplyM SrtM SaidT RefR DoV LawK SrtL RefV ReplyM
set_option linter.unusedVariables false
set_option maxRecDepth 100000
-- ASKS: NumL.Gd


theorem same_me (d : V) : sameB d d = true := decide_eq_true rfl
theorem elem_int : Tryd.prog.underlying 34 = some (.slice (Tryd.prog.elem 34)) := by kernel_rfl
theorem size_int (w : World) : (Go.sizeOf (Tryd.prog.elem 34)).run Tryd.prog w = .ok 1 w := by kernel_rfl
theorem sl_int (p : Option Addr) (n c hi : Nat) (h1 : hi ≤ c) (W : World) :
    (Instr.slice 34 (.slice p n c) none (some (.int .i64 (hi : Int))) none).run Tryd.prog W = .ok (.slice p hi c) W := by
  have h : (Instr.slice 34 (.slice p n c) none (some (.int .i64 (hi : Int))) none).run Tryd.prog W = .ok (.slice (StrT.partAt p c 0) hi c) W := by
    rw [run_slice_h (P := Tryd.prog) W 34 p n c elem_int .i64 (hi : Int) (by omega) (by omega), size_int]
    simp [Result.andThen, sliced, StrT.partAt]
  rw [h, StrT.partAt_nought]
theorem at_in {L : List Int} (hb : ∀ x ∈ L, -9223372036854775808 ≤ x ∧ x ≤ 9223372036854775807) (i : Nat) : inI (L.getD i 0) := by
  by_cases h : i < L.length
  · rw [List.getD_eq_getElem?_getD, List.getElem?_eq_getElem h]
    exact hb _ (List.getElem_mem h)
  · rw [List.getD_eq_getElem?_getD, List.getElem?_eq_none (by omega)]
    show (-9223372036854775808 : Int) ≤ 0 ∧ (0 : Int) ≤ 9223372036854775807
    omega
theorem turn_same (v : Nat → Int) (m k : Nat) (hm : m ≤ 8) : putI nmL v (rotL k m m) = putI nmL v (List.range m) := by
  rcases Nat.eq_zero_or_pos m with rfl | h0
  · rfl
  · exact (putI_same nmL v m (nm_inj m hm) (List.range m) (rotL k m m) (fun i hi => List.mem_range.1 hi) (rot_all k m h0)).symm
theorem no_z (v : Nat → Int) (m : Nat) (hm : m ≤ 8) : hasM (putI nmL v (List.range m)) [122] = false := by
  rw [← Bool.not_eq_true, has_iff]
  rintro ⟨y, hy, e⟩
  obtain ⟨i, hi, rfl⟩ := (putI_mem nmL v m (nm_inj m hm) _ (fun j hj => List.mem_range.1 hj) y).1 hy
  have hi := List.mem_range.1 hi
  have e : nmL i = [122] := e
  have h8 : i = 0 ∨ i = 1 ∨ i = 2 ∨ i = 3 ∨ i = 4 ∨ i = 5 ∨ i = 6 ∨ i = 7 := by omega
  clear hi hy
  rcases h8 with rfl | rfl | rfl | rfl | rfl | rfl | rfl | rfl <;> exact absurd e (by decide)

set_option maxHeartbeats 16000000 in
theorem walk (q : Option Addr) (L : List Int) (n c : Nat) (a : Int) (w : World) (hL : L.length = n) (h : IntT.Is w q L) (hcap : n ≤ c) (hcm : c ≤ 9223372036854775807) (hb : ∀ x ∈ L, -9223372036854775808 ≤ x ∧ x ≤ 9223372036854775807) (a0 : 0 ≤ a) (a1 : a ≤ 255) (hg : Gd w) :
    Calls Tryd.prog 4 #[.slice q n c, .int .u8 a] w fun e w' => e = .returned (.bool true) ∧ Below w.heap.size w w' := by
  obtain ⟨an, rfl⟩ : ∃ an : Nat, a = (an : Int) := ⟨a.toNat, by omega⟩
  have HG := Lib.hid (fun W (h : Below w.heap.size w W) => hg.keep h)
  have C0 := Lib.hid (shown_any w hg)
  obtain ⟨m, hm⟩ : ∃ m : Nat, m = min n 8 := ⟨_, rfl⟩
  have hm8 : m ≤ 8 := by omega
  have HMc := Lib.hid (show m ≤ c by omega)
  have HCm := Lib.hid hcm
  obtain ⟨v, hv⟩ : ∃ v : Nat → Int, ∀ i, v i = L.getD i 0 := ⟨_, fun _ => rfl⟩
  have HVn := Lib.hid (show ∀ i, inI (v i) from fun i => by rw [hv i]; exact at_in hb i)
  have HS := Lib.hid (show ∀ W, Below w.heap.size w W → ∀ i, i < m → ∃ b off, q = some ⟨b, off, none⟩ ∧ b < w.heap.size ∧ W.cell? ⟨b, off + i, none⟩ = some (.int .i64 (v i)) from fun W hW i hi => by
    obtain ⟨b, off, e, hlt, hc⟩ := h.at_ i (by omega)
    refine ⟨b, off, e, hlt, ?_⟩
    rw [hW.cell (p := ⟨b, off + i, none⟩) hlt, hc, hv i, List.getD_eq_getElem?_getD, List.getElem?_eq_getElem (show i < L.length by omega)]
    rfl)
  have hnz : (n : Int) ≤ 9223372036854775807 := by omega
  have sl8 : ∀ W, (Instr.slice 34 (.slice q n c) none (some (.int .i64 8)) none).run Tryd.prog W = .ok (.slice q 8 c) W ∨ ¬ 8 ≤ c := fun W => by
    by_cases h : 8 ≤ c
    · exact Or.inl (sl_int q n c 8 h W)
    · exact Or.inr h
  have hmw : (8 < n ∧ m = 8) ∨ (n ≤ 8 ∧ m = n) := by omega
  obtain ⟨kx, hkx⟩ : ∃ kx : Nat, kx = an % (m + 1) := ⟨_, rfl⟩
  have HKx := Lib.hid (show kx ≤ m from by have := Nat.mod_lt an (show 0 < m + 1 by omega); omega)
  have HJ := Lib.hid (show (an : Int) % ((m : Int) + 1) = (kx : Int) by rw [hkx, Int.natCast_emod, Int.natCast_add]; rfl)
  clear h hb hg hL hcm hm hkx a0 hv
  go_enter Tryd.func4, Tryd.ntmps4
  go_wp2_with fail
  with_reducible refine C0.out.mono ?_
  rintro e w1 ⟨rfl, hb1⟩
  have HB1 := Lib.hid hb1
  clear hb1 C0
  go_upto_if 23 with fail
  go_cut [0] (fun v wx => v = .slice q m c ∧ w1 = wx)
  case first =>
    rcases hmw with ⟨h1, h2⟩ | ⟨h1, h2⟩
    · have tb : decide ((8 : Int) < (n : Int)) = true := decide_eq_true (by omega)
      have sl : ∀ W, (Instr.slice 34 (.slice q n c) none (some (.int .i64 8)) none).run Tryd.prog W = .ok (.slice q 8 c) W := fun W => (sl8 W).resolve_right (by omega)
      subst h2
      clear sl8
      go_wp2_with fail
      go_meet
      exact ⟨rfl, rfl⟩
    · have tb : decide ((8 : Int) < (n : Int)) = false := decide_eq_false (by omega)
      subst h2
      clear sl8
      go_wp2_with fail
      go_meet
      exact ⟨rfl, rfl⟩
  case rest =>
  obtain ⟨rfl, rfl⟩ := hcut
  clear hmw sl8 hnz hcap
  rename World => w1
  have z1 : ((m : Int) + 1 == 0) = false := by rw [beq_eq_false_iff_ne]; omega
  have z2 : ¬ (m : Int) + 1 = 0 := by omega
  have z3 : ¬ m + 1 = 0 := by omega
  have z4 : (m : Int) + 1 ≤ 9 := by omega
  go_wp2_with fail
  rename_i K0 hK0
  rw [HJ.out]
  have HV1 := Lib.hid (VB.new (pv0_in w1))
  have HV2 := Lib.hid (VB.new (pv0_in (w1.alloc (.cells #[.int .u8 0, .string ⟨#[]⟩, .slice none 0 0, .slice none 0 0, .slice none 0 0] 26))))
  have HB3 := Lib.hid (show Below w1.heap.size w1 ((w1.alloc (.cells #[.int .u8 0, .string ⟨#[]⟩, .slice none 0 0, .slice none 0 0, .slice none 0 0] 26)).alloc (.cells #[.int .u8 0, .string ⟨#[]⟩, .slice none 0 0, .slice none 0 0, .slice none 0 0] 26)) from ((Kit.below1 w1 _).alloc (by simp) _))
  have HA := Lib.hid (show VB ((w1.alloc (.cells #[.int .u8 0, .string ⟨#[]⟩, .slice none 0 0, .slice none 0 0, .slice none 0 0] 26)).alloc (.cells #[.int .u8 0, .string ⟨#[]⟩, .slice none 0 0, .slice none 0 0, .slice none 0 0] 26)) w1.heap.size pv0 from HV1.out.keep (Kit.below1 _ _))
  have HBb := Lib.hid (show VB ((w1.alloc (.cells #[.int .u8 0, .string ⟨#[]⟩, .slice none 0 0, .slice none 0 0, .slice none 0 0] 26)).alloc (.cells #[.int .u8 0, .string ⟨#[]⟩, .slice none 0 0, .slice none 0 0, .slice none 0 0] 26)) (w1.heap.size + 1) pv0 from by
    have := HV2.out
    rw [show (w1.alloc (.cells #[.int .u8 0, .string ⟨#[]⟩, .slice none 0 0, .slice none 0 0, .slice none 0 0] 26)).heap.size = w1.heap.size + 1 by simp] at this
    exact this)
  have HBw := Lib.hid (HB1.out.trans (HB3.out.mono HB1.out.size))
  have HWs := Lib.hid HB1.out.size
  refine loop1_any w _ q v c m kx w1.heap.size (w1.heap.size + 1) HG.out HBw.out HMc.out HCm.out HS.out hm8 HKx.out HVn.out HA.out HBb.out (by omega) HWs.out (Nat.le_succ_of_le HWs.out) _ ?_
  intro v10 v11 v34 v35 v36 v37 v38 v39 v40 v41 v42 v43 v44 v45 v46 v47 v48 v49 v50 v51 v52 v53 v54 v55 v56 v57 v58 v59 v60 v61 v62 v63 v64 v65 v66 v67 v68 v69 v70 v71 v72 v73 v74 v75 v76 v77 v78 v79 v80 v81 v82 v83 v84 v85 v86 v87 v88 wy p r hDp hDr hVp hVr hB
  refine hK0 _ _ ?_
  generalize w1.heap.size = ga at hVp hVr ⊢
  rw [turn_same v m kx hm8] at hDr
  obtain ⟨M, hM⟩ : ∃ M, M = putI nmL v (List.range m) := ⟨_, rfl⟩
  rw [← hM] at hDp hDr
  have HMe := Lib.hid hM
  have HMl := Lib.hid (show M.length = m by rw [hM]; exact putI_full nmL v m (nm_inj m hm8) m (Nat.le_refl _))
  have HMu := Lib.hid (show marks M by rw [hM]; exact putI_up _ _ _)
  have HMn := Lib.hid (show ∀ x ∈ M, inI x.n by rw [hM]; exact putI_in _ _ HVn.out _)
  have HMz := Lib.hid (show hasM M [122] = false by rw [hM]; exact no_z v m hm8)
  have HMa := Lib.hid (show 0 < m → hasM M [97] = true from fun h0 => by rw [hM]; exact (putI_num nmL v m (nm_inj m hm8) 0 h0).1)
  clear hM
  obtain ⟨k1, S1, ql1, nl1, cl1, qh1, nh1, ch1, qz1, nz1, cz1, d1⟩ := p
  obtain ⟨k2, S2, ql2, nl2, cl2, qh2, nh2, ch2, qz2, nz2, cz2, d2⟩ := r
  have e1 : d1 = zV M := hDp
  have e2 : d2 = zV M := hDr
  have HD1 := Lib.hid (show PV.d ⟨k1, S1, ql1, nl1, cl1, qh1, nh1, ch1, qz1, nz1, cz1, d1⟩ = zV M from e1)
  have hn1 : m = nz1 := by
    have h := (pv_marks hVp.pv HD1.out).1
    dsimp only at h
    rw [h, HMl.out]
  subst hn1
  have CS := Lib.hid (rsame k1 S1 ql1 nl1 cl1 qh1 nh1 ch1 qz1 m cz1 d1 k2 S2 ql2 nl2 cl2 qh2 nh2 ch2 qz2 nz2 cz2 d2 wy hVp.pv hVr.pv)
  rw [show sameB d1 d2 = true by rw [e1, e2]; exact same_me _] at CS
  have HV1 := Lib.hid hVp
  have HVr := Lib.hid hVr
  have HB := Lib.hid hB
  obtain ⟨-, -, ra0, ra1, ra2, ra3, ra4⟩ := HV1.out.room
  dsimp only at ra0 ra1 ra2 ra3 ra4
  obtain ⟨-, -, rb0, rb1, rb2, rb3, rb4⟩ := HVr.out.room
  dsimp only at rb0 rb1 rb2 rb3 rb4
  clear hDp hDr e1 e2 hVp hVr hB HA HBb HBw HWs hK0 HV2 HB3 HKx HJ z1 z2 z3 z4
  go_wp2_with fail
  clear ra0 ra1 ra2 ra3 ra4 rb0 rb1 rb2 rb3 rb4
  with_reducible refine CS.out.mono ?_
  rintro e w5 ⟨rfl, hb5⟩
  have HV1 := Lib.hid (HV1.out.keep hb5)
  have HB := Lib.hid (HB.out.trans (hb5.mono HB.out.size))
  clear hb5 CS HVr
  obtain ⟨-, -, ra0, ra1, ra2, ra3, ra4⟩ := HV1.out.room
  dsimp only at ra0 ra1 ra2 ra3 ra4
  have tm : ((m : Int) != (m : Int)) = false := by simp
  go_wp2_with fail
  clear ra0 ra1 ra2 ra3 ra4 tm
  rename_i K0 hK0
  refine loop2_any w w5 q v c m ga M k1 S1 ql1 nl1 cl1 qh1 nh1 ch1 qz1 m cz1 d1 HG.out HB.out HMc.out HCm.out HS.out hm8 HVn.out HV1.out HD1.out HMe.out _ ?_
  intro v4 v13 v14 v15 v102 v103 v104 v105 v106 v107 v108 v109 v110 v111 v112 v113 v114 v115 v116 v117 v118 v119 v120 v121 v122 v123 v124 v125 v126 v127 v128 v129 v130 v131 v132 v133 v134 v135 v136 v137 v138 v139 v140 v141 v142 v143 v144 v145 v146 v147 v148 v149 v150 v151 v152 v153 v154 v155 v156 v157 v158 v159 v160 v161 v162 v163 v164 v165 v166 v167 v168 v169 v170 v171 v172 v173 v174 v175 v176 v177 v178 v179 v180 wz hB2
  refine hK0 _ _ ?_
  have HV1 := Lib.hid (HV1.out.keep hB2)
  have HB := Lib.hid (HB.out.trans (hB2.mono HB.out.size))
  clear hB2 hK0 HS HMe HVn HCm HMc
  rcases Nat.eq_zero_or_pos m with h0 | h0
  · have tz : ((m : Int) == 0) = true := by rw [beq_iff_eq]; omega
    have tz2 : (m : Int) = 0 := by omega
    go_wp2_with fail
    go_ret
    exact ⟨rfl, HB.out⟩
  · have tz : ((m : Int) == 0) = false := by rw [beq_eq_false_iff_ne]; omega
    have HMa := Lib.hid (HMa.out h0)
    obtain ⟨NN, HNN⟩ : ∃ NR, Hid (null.length = NR) := ⟨_, Lib.hid rfl⟩
    obtain ⟨XN, HXN⟩ : ∃ XR : ByteArray, Hid (XR.data.toList = null) := ⟨⟨null.toArray⟩, Lib.hid rfl⟩
    have HRu := Lib.hid (rem_up [97] HMu.out)
    have HRn := Lib.hid (fun x (hx : x ∈ remM M [97]) => HMn.out x ((rem_mem _ _ _).1 hx).1)
    have HRl := Lib.hid (show (remM M [97]).length + 1 = m by rw [rem_len HMu.out HMa.out, HMl.out])
    have C1 := Lib.hid (fun (W Y : World) (g : Nat) (hY : Below (W.alloc (.cells #[.string ⟨#[122, 114, 101, 109]⟩, .string ⟨#[107]⟩, .string ⟨#[97]⟩, .string ⟨#[122]⟩, .string ⟨#[97]⟩] 9)).heap.size (W.alloc (.cells #[.string ⟨#[122, 114, 101, 109]⟩, .string ⟨#[107]⟩, .string ⟨#[97]⟩, .string ⟨#[122]⟩, .string ⟨#[97]⟩] 9)) Y) (hgw : g = W.heap.size) (hW : Below w.heap.size w W) (hpv : PV.In W ⟨k1, S1, ql1, nl1, cl1, qh1, nh1, ch1, qz1, m, cz1, d1⟩) (hdv : PV.d ⟨k1, S1, ql1, nl1, cl1, qh1, nh1, ch1, qz1, m, cz1, d1⟩ = zV (M)) => (show Calls Tryd.prog 11 #[.agg #[.int .u8 k1, .string S1, .slice ql1 nl1 cl1, .slice qh1 nh1 ch1, .slice qz1 m cz1], .slice (some ⟨g, 0, none⟩) 5 5] Y (DoN (zV (remM M [97])) (int 1) W) from by subst hgw; exact don_to (rem_three HMu.out HMa.out HMz.out) (on5 1 (by decide) ⟨#[122, 114, 101, 109]⟩ ⟨#[107]⟩ ⟨#[97]⟩ ⟨#[122]⟩ ⟨#[97]⟩ (by decide) (by decide) (by decide) ⟨k1, S1, ql1, nl1, cl1, qh1, nh1, ch1, qz1, m, cz1, d1⟩ (M) W Y hY hpv hdv (HG.out W hW) ⟨HMu.out, HMn.out, by have := HMl.out; omega, show 3 ≤ 1048576 by decide⟩)))
    obtain ⟨-, -, ra0, ra1, ra2, ra3, ra4⟩ := HV1.out.room
    dsimp only at ra0 ra1 ra2 ra3 ra4
    go_wp2_with fail
    clear ra0 ra1 ra2 ra3 ra4
    with_reducible refine (C1.out wz _ _ (Below.refl _ _) rfl HB.out HV1.out.pv HD1.out).mono ?_
    rintro e wa ⟨p3, vr3, rfl, hI, hd, hn, hA, hb⟩
    obtain ⟨k3, S3, ql3, nl3, cl3, qh3, nh3, ch3, qz3, nz3, cz3, d3⟩ := p3
    dsimp only [PV.agg]
    obtain ⟨qr3, cr3, rfl, hv3⟩ := ans_text hA 4 (by decide +kernel) ⟨#[58, 49, 13, 10]⟩ (by decide +kernel)
    have hbn := hb.trans ((Kit.below1 wa (.cells #[.int .u8 k3, .string S3, .slice ql3 nl3 cl3, .slice qh3 nh3 ch3, .slice qz3 nz3 cz3] 26)).mono hb.size)
    have HB := Lib.hid (HB.out.trans (hbn.mono HB.out.size))
    have HV3 := Lib.hid (show VB _ wa.heap.size ⟨k3, S3, ql3, nl3, cl3, qh3, nh3, ch3, qz3, nz3, cz3, d3⟩ from VB.new hI)
    have HD3 := Lib.hid (show PV.d ⟨k3, S3, ql3, nl3, cl3, qh3, nh3, ch3, qz3, nz3, cz3, d3⟩ = _ from hd)
    have hbx := Kit.below1 wa (.cells #[.int .u8 k3, .string S3, .slice ql3 nl3 cl3, .slice qh3 nh3 ch3, .slice qz3 nz3 cz3] 26)
    have HC3 := Lib.hid (fun W hW => hv3 W (hbx.trans (Below.mono hW hbx.size)))
    clear hbx
    have HL3 := Lib.hid (show wz.heap.size ≤ wa.heap.size from Below.size hb)
    clear hI hd hn hA hb hbn hv3
    go_upto_region 27 with fail
    generalize hgg : wa.heap.size = g3 at HV3 HL3 ⊢
    clear hgg
    generalize wa.alloc (.cells #[.int .u8 k3, .string S3, .slice ql3 nl3 cl3, .slice qh3 nh3 ch3, .slice qz3 nz3 cz3] 26) = w6 at HV3 HB HC3 ⊢
    clear C1 HL3
    have C1 := Lib.hid (fun (W Y : World) (g : Nat) (hY : Below (W.alloc (.cells #[.string ⟨#[122, 115, 99, 111, 114, 101]⟩, .string ⟨#[107]⟩, .string ⟨#[97]⟩] 9)).heap.size (W.alloc (.cells #[.string ⟨#[122, 115, 99, 111, 114, 101]⟩, .string ⟨#[107]⟩, .string ⟨#[97]⟩] 9)) Y) (hgw : g = W.heap.size) (hW : Below w.heap.size w W) (hpv : PV.In W ⟨k3, S3, ql3, nl3, cl3, qh3, nh3, ch3, qz3, nz3, cz3, d3⟩) (hdv : PV.d ⟨k3, S3, ql3, nl3, cl3, qh3, nh3, ch3, qz3, nz3, cz3, d3⟩ = zV (remM M [97])) => (show Calls Tryd.prog 11 #[.agg #[.int .u8 k3, .string S3, .slice ql3 nl3 cl3, .slice qh3 nh3 ch3, .slice qz3 nz3 cz3], .slice (some ⟨g, 0, none⟩) 3 3] Y (DoN (zV (remM M [97])) (null) W) from by subst hgw; exact don_to (none_row (rem_has M [97])) (on3 2 (by decide) ⟨#[122, 115, 99, 111, 114, 101]⟩ ⟨#[107]⟩ ⟨#[97]⟩ (by decide) (by decide) (by decide) ⟨k3, S3, ql3, nl3, cl3, qh3, nh3, ch3, qz3, nz3, cz3, d3⟩ (remM M [97]) W Y hY hpv hdv (HG.out W hW) ⟨HRu.out, HRn.out, by have := HRl.out; omega, Nat.le_refl 1⟩)))
    obtain ⟨-, -, ra0, ra1, ra2, ra3, ra4⟩ := HV3.out.room
    dsimp only at ra0 ra1 ra2 ra3 ra4
    go_wp2_with fail
    clear ra0 ra1 ra2 ra3 ra4
    with_reducible refine (C1.out w6 _ _ (Below.refl _ _) rfl HB.out HV3.out.pv HD3.out).mono ?_
    rintro e wa ⟨p4, vr4, rfl, hI, hd, hn, hA, hb⟩
    obtain ⟨k4, S4, ql4, nl4, cl4, qh4, nh4, ch4, qz4, nz4, cz4, d4⟩ := p4
    dsimp only [PV.agg]
    obtain ⟨qr4, cr4, rfl, hv4⟩ := ans_text hA NN HNN.out XN HXN.out
    have hbn := hb.trans ((Kit.below1 wa (.cells #[.int .u8 k4, .string S4, .slice ql4 nl4 cl4, .slice qh4 nh4 ch4, .slice qz4 nz4 cz4] 26)).mono hb.size)
    have HV3 := Lib.hid (HV3.out.keep hbn)
    have HC3 := Lib.hid (fun W hW => HC3.out W (hbn.trans (Below.mono hW hbn.size)))
    have HB := Lib.hid (HB.out.trans (hbn.mono HB.out.size))
    have HV4 := Lib.hid (show VB _ wa.heap.size ⟨k4, S4, ql4, nl4, cl4, qh4, nh4, ch4, qz4, nz4, cz4, d4⟩ from VB.new hI)
    have HD4 := Lib.hid (show PV.d ⟨k4, S4, ql4, nl4, cl4, qh4, nh4, ch4, qz4, nz4, cz4, d4⟩ = _ from hd)
    have hbx := Kit.below1 wa (.cells #[.int .u8 k4, .string S4, .slice ql4 nl4 cl4, .slice qh4 nh4 ch4, .slice qz4 nz4 cz4] 26)
    have HC4 := Lib.hid (fun W hW => hv4 W (hbx.trans (Below.mono hW hbx.size)))
    clear hbx
    have HL4 := Lib.hid (show w6.heap.size ≤ wa.heap.size from Below.size hb)
    clear hI hd hn hA hb hbn hv4
    go_upto_region 28 with fail
    generalize hgg : wa.heap.size = g4 at HV4 HL4 ⊢
    clear hgg
    generalize wa.alloc (.cells #[.int .u8 k4, .string S4, .slice ql4 nl4 cl4, .slice qh4 nh4 ch4, .slice qz4 nz4 cz4] 26) = w7 at HV4 HV3 HC3 HB HC4 ⊢
    clear C1 HL4
    have e3 : (m : Int) - 1 = (nz3 : Int) := by
      have h := (pv_marks HV3.out.pv HD3.out).1
      dsimp only at h
      have := HRl.out
      omega
    have hc3 := HC3.out
    have hc4 := HC4.out
    have hx3 := fun W (h : Below w7.heap.size w7 W) => (VB.room (p := ⟨k3, S3, ql3, nl3, cl3, qh3, nh3, ch3, qz3, nz3, cz3, d3⟩) (HV3.out.keep h)).c4
    dsimp only at hx3
    have A1 := Lib.hid (fun W (h : Below w7.heap.size w7 W) => (show Calls Tryd.prog 14 #[] W (Said w7 W NN XN) from (rnull W).mono (fun e w' hh => said_of hh h NN HNN.out XN HXN.out)))
    have HWz := Lib.hid (show IntKind.i64.wrap (nz3 : Int) = (nz3 : Int) from IntWalk.i64_in _ (by omega))
    have h1m : (1 : Int) ≤ (m : Int) := by omega
    have te : ((nz3 : Int) == (nz3 : Int)) = true := by simp
    clear HC3 HC4 HV3 HD3 HV4 HD4 HV1 HD1 HRu HRn HRl HMu HMn HMl HMz HMa HNN HXN HG
    have hwz := HWz.out
    refine wp_region_held_drew (S := fun W => Below w7.heap.size w7 W ∧ Below w7.heap.size w7 W) (by kernel_rfl) ?_ (fun hHeld => ?_)
    · exact ⟨(Below.refl _ _).drew, (Below.refl _ _).drew⟩
    refine wpAnyH_take (i := 0) (v := ?_) rfl (by kernel_rfl) (by kernel_rfl) (by kernel_rfl) (fun _ _ _ h => h) (Or.inl ⟨by rfl, ?_⟩) (by assumption) ?_
    rotate_left
    · intro W0 hSw; obtain ⟨hSa, hSb⟩ := hSw; go_simp; all_goals (with_reducible rfl)
    try simp only [Act.put, List.getElem_toArray, List.getElem_cons_zero, List.setIfInBounds_toArray, List.set_cons_zero, List.set_cons_succ]
    refine wpAnyH_take (i := 1) (v := ?_) rfl (by kernel_rfl) (by kernel_rfl) (by kernel_rfl) (fun _ _ _ h => h) (Or.inl ⟨by rfl, ?_⟩) (by assumption) ?_
    rotate_left
    · intro W0 hSw; obtain ⟨hSa, hSb⟩ := hSw; go_simp; all_goals (with_reducible rfl)
    try simp only [Act.put, List.getElem_toArray, List.getElem_cons_succ, List.getElem_cons_zero, List.setIfInBounds_toArray, List.set_cons_zero, List.set_cons_succ]
    refine wpAnyH_take (i := 2) (v := ?_) rfl (by kernel_rfl) (by kernel_rfl) (by kernel_rfl) (fun _ _ _ h => h) (Or.inl ⟨by rfl, ?_⟩) (by assumption) ?_
    rotate_left
    · intro W0 hSw; obtain ⟨hSa, hSb⟩ := hSw; go_simp; all_goals (with_reducible rfl)
    try simp only [Act.put, List.getElem_toArray, List.getElem_cons_succ, List.getElem_cons_zero, List.setIfInBounds_toArray, List.set_cons_zero, List.set_cons_succ]
    refine wpAnyH_take (i := 3) (v := ?_) rfl (by kernel_rfl) (by kernel_rfl) (by kernel_rfl) (fun _ _ _ h => h) (Or.inl ⟨by rfl, ?_⟩) (by assumption) ?_
    rotate_left
    · intro W0 hSw; obtain ⟨hSa, hSb⟩ := hSw; go_simp; all_goals (with_reducible rfl)
    try simp only [Act.put, List.getElem_toArray, List.getElem_cons_succ, List.getElem_cons_zero, List.setIfInBounds_toArray, List.set_cons_zero, List.set_cons_succ]
    refine wpAnyH_take (i := 4) (v := ?_) rfl (by kernel_rfl) (by kernel_rfl) (by kernel_rfl) (fun _ _ _ h => h) (Or.inl ⟨by rfl, ?_⟩) (by assumption) ?_
    rotate_left
    · intro W0 hSw; obtain ⟨hSa, hSb⟩ := hSw; go_simp; all_goals (with_reducible rfl)
    try simp only [Act.put, List.getElem_toArray, List.getElem_cons_succ, List.getElem_cons_zero, List.setIfInBounds_toArray, List.set_cons_zero, List.set_cons_succ]
    refine wpAnyH_take (i := 5) (v := ?_) rfl (by kernel_rfl) (by kernel_rfl) (by kernel_rfl) (fun _ _ _ h => h) (Or.inl ⟨by rfl, ?_⟩) (by assumption) ?_
    rotate_left
    · intro W0 hSw; obtain ⟨hSa, hSb⟩ := hSw; go_simp; all_goals (with_reducible rfl)
    try simp only [Act.put, List.getElem_toArray, List.getElem_cons_succ, List.getElem_cons_zero, List.setIfInBounds_toArray, List.set_cons_zero, List.set_cons_succ]
    refine wpAnyH_take (i := 6) (v := ?_) rfl (by kernel_rfl) (by kernel_rfl) (by kernel_rfl) (fun _ _ _ h => h) (Or.inl ⟨by rfl, ?_⟩) (by assumption) ?_
    rotate_left
    · intro W0 hSw; obtain ⟨hSa, hSb⟩ := hSw; go_simp; all_goals (with_reducible rfl)
    try simp only [Act.put, List.getElem_toArray, List.getElem_cons_succ, List.getElem_cons_zero, List.setIfInBounds_toArray, List.set_cons_zero, List.set_cons_succ]
    refine wpAnyH_take (i := 7) (v := ?_) rfl (by kernel_rfl) (by kernel_rfl) (by kernel_rfl) (fun _ _ _ h => h) (Or.inl ⟨by rfl, ?_⟩) (by assumption) ?_
    rotate_left
    · intro W0 hSw; obtain ⟨hSa, hSb⟩ := hSw; go_simp; all_goals (with_reducible rfl)
    try simp only [Act.put, List.getElem_toArray, List.getElem_cons_succ, List.getElem_cons_zero, List.setIfInBounds_toArray, List.set_cons_zero, List.set_cons_succ]
    refine wpAnyH_take (i := 8) (v := ?_) rfl (by kernel_rfl) (by kernel_rfl) (by kernel_rfl) (fun _ _ _ h => h) (Or.inl ⟨by rfl, ?_⟩) (by assumption) ?_
    rotate_left
    · intro W0 hSw; obtain ⟨hSa, hSb⟩ := hSw; go_simp; all_goals (with_reducible rfl)
    try simp only [Act.put, List.getElem_toArray, List.getElem_cons_succ, List.getElem_cons_zero, List.setIfInBounds_toArray, List.set_cons_zero, List.set_cons_succ]
    refine wpAnyH_ready (rs := [9]) (by kernel_rfl) (by simp) ?_
    refine AllReadyH.cons rfl (fun K hK => ?_) AllReadyH.nil
    go_simp
    go_wp2_with (go_at_call 14; (refine (A1.out _ hHeld.1).mono ?_); rintro e wA0 ⟨pwA0, cwA0, rfl, vwA0, bwA0, ywA0, zwA0⟩)
    have hC := hHeld.2.trans (ywA0.mono hHeld.2.size)
    refine hK.out _ _ ?_ (fun hHeld2 => ?_)
    · exact ⟨bwA0, hC⟩
    clear hK K hHeld hHeld2
    have hHeld : Below w7.heap.size w7 wA0 ∧ Below wA0.heap.size wA0 wA0 := ⟨bwA0, zwA0⟩
    refine held_mono (S' := fun W => Below w7.heap.size w7 W ∧ Below wA0.heap.size wA0 W) (fun W hW => ⟨hW.1, hC.trans (hW.2.mono hC.size)⟩) _ _ _ _ ?_
    clear hC
    refine wpAnyH_take (i := 10) (v := ?_) rfl (by kernel_rfl) (by kernel_rfl) (by kernel_rfl) (fun _ _ _ h => h) (Or.inl ⟨by rfl, ?_⟩) (by assumption) ?_
    rotate_left
    · intro W0 hSw; obtain ⟨hSa, hSb⟩ := hSw; go_simp; all_goals (with_reducible rfl)
    try simp only [Act.put, List.getElem_toArray, List.getElem_cons_succ, List.getElem_cons_zero, List.setIfInBounds_toArray, List.set_cons_zero, List.set_cons_succ]
    refine wpAnyH_take (i := 11) (v := ?_) rfl (by kernel_rfl) (by kernel_rfl) (by kernel_rfl) (fun _ _ _ h => h) (Or.inl ⟨by rfl, ?_⟩) (by assumption) ?_
    rotate_left
    · intro W0 hSw; obtain ⟨hSa, hSb⟩ := hSw; go_simp; all_goals (with_reducible rfl)
    try simp only [Act.put, List.getElem_toArray, List.getElem_cons_succ, List.getElem_cons_zero, List.setIfInBounds_toArray, List.set_cons_zero, List.set_cons_succ]
    refine wpAnyH_take (i := 12) (v := ?_) rfl (by kernel_rfl) (by kernel_rfl) (by kernel_rfl) (fun _ _ _ h => h) (Or.inl ⟨by rfl, ?_⟩) (by assumption) ?_
    rotate_left
    · intro W0 hSw; obtain ⟨hSa, hSb⟩ := hSw; go_simp; all_goals (with_reducible rfl)
    try simp only [Act.put, List.getElem_toArray, List.getElem_cons_succ, List.getElem_cons_zero, List.setIfInBounds_toArray, List.set_cons_zero, List.set_cons_succ]
    refine wpAnyH_take (i := 13) (v := ?_) rfl (by kernel_rfl) (by kernel_rfl) (by kernel_rfl) (fun _ _ _ h => h) (Or.inl ⟨by rfl, ?_⟩) (by assumption) ?_
    rotate_left
    · intro W0 hSw; obtain ⟨hSa, hSb⟩ := hSw; go_simp; all_goals (with_reducible rfl)
    try simp only [Act.put, List.getElem_toArray, List.getElem_cons_succ, List.getElem_cons_zero, List.setIfInBounds_toArray, List.set_cons_zero, List.set_cons_succ]
    refine wpAnyH_take (i := 14) (v := ?_) rfl (by kernel_rfl) (by kernel_rfl) (by kernel_rfl) (fun _ _ _ h => h) (Or.inl ⟨by rfl, ?_⟩) (by assumption) ?_
    rotate_left
    · intro W0 hSw; obtain ⟨hSa, hSb⟩ := hSw; go_simp; all_goals (with_reducible rfl)
    try simp only [Act.put, List.getElem_toArray, List.getElem_cons_succ, List.getElem_cons_zero, List.setIfInBounds_toArray, List.set_cons_zero, List.set_cons_succ]
    refine wpAnyH_take (i := 15) (v := ?_) rfl (by kernel_rfl) (by kernel_rfl) (by kernel_rfl) (fun _ _ _ h => h) (Or.inl ⟨by rfl, ?_⟩) (by assumption) ?_
    rotate_left
    · intro W0 hSw; obtain ⟨hSa, hSb⟩ := hSw; go_simp; all_goals (with_reducible rfl)
    try simp only [Act.put, List.getElem_toArray, List.getElem_cons_succ, List.getElem_cons_zero, List.setIfInBounds_toArray, List.set_cons_zero, List.set_cons_succ]
    refine wpAnyH_take (i := 16) (v := ?_) rfl (by kernel_rfl) (by kernel_rfl) (by kernel_rfl) (fun _ _ _ h => h) (Or.inl ⟨by rfl, ?_⟩) (by assumption) ?_
    rotate_left
    · intro W0 hSw; obtain ⟨hSa, hSb⟩ := hSw; go_simp; all_goals (with_reducible rfl)
    try simp only [Act.put, List.getElem_toArray, List.getElem_cons_succ, List.getElem_cons_zero, List.setIfInBounds_toArray, List.set_cons_zero, List.set_cons_succ]
    refine wpAnyH_take (i := 17) (v := ?_) rfl (by kernel_rfl) (by kernel_rfl) (by kernel_rfl) (fun _ _ _ h => h) (Or.inl ⟨by rfl, ?_⟩) (by assumption) ?_
    rotate_left
    · intro W0 hSw; obtain ⟨hSa, hSb⟩ := hSw; go_simp; all_goals (with_reducible rfl)
    try simp only [Act.put, List.getElem_toArray, List.getElem_cons_succ, List.getElem_cons_zero, List.setIfInBounds_toArray, List.set_cons_zero, List.set_cons_succ]
    refine wpAnyH_take (i := 18) (v := ?_) rfl (by kernel_rfl) (by kernel_rfl) (by kernel_rfl) (fun _ _ _ h => h) (Or.inl ⟨by rfl, ?_⟩) (by assumption) ?_
    rotate_left
    · intro W0 hSw; obtain ⟨hSa, hSb⟩ := hSw; go_simp; all_goals (with_reducible rfl)
    try simp only [Act.put, List.getElem_toArray, List.getElem_cons_succ, List.getElem_cons_zero, List.setIfInBounds_toArray, List.set_cons_zero, List.set_cons_succ]
    refine wpAnyH_take (i := 19) (v := ?_) rfl (by kernel_rfl) (by kernel_rfl) (by kernel_rfl) (fun _ _ _ h => h) (Or.inl ⟨by rfl, ?_⟩) (by assumption) ?_
    rotate_left
    · intro W0 hSw; obtain ⟨hSa, hSb⟩ := hSw; go_simp; all_goals (with_reducible rfl)
    try simp only [Act.put, List.getElem_toArray, List.getElem_cons_succ, List.getElem_cons_zero, List.setIfInBounds_toArray, List.set_cons_zero, List.set_cons_succ]
    refine wpAnyH_take (i := 20) (v := ?_) rfl (by kernel_rfl) (by kernel_rfl) (by kernel_rfl) (fun _ _ _ h => h) (Or.inl ⟨by rfl, ?_⟩) (by assumption) ?_
    rotate_left
    · intro W0 hSw; obtain ⟨hSa, hSb⟩ := hSw; go_simp; all_goals (with_reducible rfl)
    try simp only [Act.put, List.getElem_toArray, List.getElem_cons_succ, List.getElem_cons_zero, List.setIfInBounds_toArray, List.set_cons_zero, List.set_cons_succ]
    refine wpAnyH_take (i := 21) (v := ?_) rfl (by kernel_rfl) (by kernel_rfl) (by kernel_rfl) (fun _ _ _ h => h) (Or.inl ⟨by rfl, ?_⟩) (by assumption) ?_
    rotate_left
    · intro W0 hSw; obtain ⟨hSa, hSb⟩ := hSw; go_simp; all_goals (with_reducible rfl)
    try simp only [Act.put, List.getElem_toArray, List.getElem_cons_succ, List.getElem_cons_zero, List.setIfInBounds_toArray, List.set_cons_zero, List.set_cons_succ]
    refine wpAnyH_take (i := 22) (v := ?_) rfl (by kernel_rfl) (by kernel_rfl) (by kernel_rfl) (fun _ _ _ h => h) (Or.inl ⟨by rfl, ?_⟩) (by assumption) ?_
    rotate_left
    · intro W0 hSw; obtain ⟨hSa, hSb⟩ := hSw; go_simp; all_goals (with_reducible rfl)
    try simp only [Act.put, List.getElem_toArray, List.getElem_cons_succ, List.getElem_cons_zero, List.setIfInBounds_toArray, List.set_cons_zero, List.set_cons_succ]
    refine wpAnyH_done (by kernel_rfl) ?_ _
    go_wp2_with fail
    go_ret
    exact ⟨rfl, HB.out.trans (hHeld.1.mono HB.out.size)⟩

end Go.Proofs.YtodpocciimbjbaaDoor.sortedBack
