/-
  StoreDues: a deadline that is taken away takes no key, a later one stands for an earlier one, and a key that is put anew has none.
-/
import Derived.Test.YtbcjgkedlapmhaaStoLaw
import Derived.Test.YtbcjgkedlapmhaaStoDues
import Derived.Test.YtbcjgkedlapmhaaFitLen
import Derived.Deep.RegionHeld
namespace Go.Proofs.Ytbcjgkedlapmhaa.storeDues
open Go.RowKit Kit StrT RowG BOrd ValT StoT StoM StoL RefV
set_option linter.unusedVariables false
set_option maxRecDepth 100000
-- ASKS: 
-- VSZ: s

theorem kind_of {p : PV} {w : World} {d : V} (hp : p.In w) (hd : p.d = d) : p.k = (d.kind : Int) := by
  have h := hp.ek
  rw [hd] at h
  exact h
set_option maxHeartbeats 16000000 in
theorem walk (k : Int) (S : ByteArray) (ql : Option Addr) (nl cl : Nat) (qh : Option Addr) (nh ch : Nat) (qz : Option Addr) (nz cz : Nat) (dv : V) (x0 x1 xn : Int) (w : World) (H : VArg w k S ql nl cl qh nh ch qz nz cz dv) (hS : S.size ≤ 140737488351232) (hx0 : 0 ≤ x0 ∧ x0 ≤ 65535) (hx1 : 0 ≤ x1 ∧ x1 ≤ 65535) (hxn0 : 0 ≤ xn) (hxn1 : xn ≤ 65535) :
    Calls Try.prog 8 #[.agg #[.int .u8 k, .string S, .slice ql nl cl, .slice qh nh ch, .slice qz nz cz], .agg #[.int .u16 x0, .int .u16 x1], .int .u16 xn] w fun e w' => e = .returned (.bool true) ∧ Below w.heap.size w w' := by
  have hxn : 0 ≤ xn ∧ xn ≤ 65535 := ⟨hxn0, hxn1⟩
  clear hxn0 hxn1
  have HV0 := Lib.hid ((VCells.new w (.int .u8 k) (.string S) (.slice ql nl cl) (.slice qh nh ch) (.slice qz nz cz) w.heap.size rfl).keep (show Below (w.alloc (.cells #[.int .u8 k, .string S, .slice ql nl cl, .slice qh nh ch, .slice qz nz cz] 35)).heap.size _ ((w.alloc (.cells #[.int .u8 k, .string S, .slice ql nl cl, .slice qh nh ch, .slice qz nz cz] 35)).alloc (.cells #[.int .u16 x0, .int .u16 x1] 57)) from (Below.refl _ _).alloc (Nat.le_refl _) _))
  have HB0 := Lib.hid (show Below w.heap.size w ((w.alloc (.cells #[.int .u8 k, .string S, .slice ql nl cl, .slice qh nh ch, .slice qz nz cz] 35)).alloc (.cells #[.int .u16 x0, .int .u16 x1] 57)) from ((Below.refl _ _).alloc (Nat.le_refl _) _).alloc (by simp) _)
  have HD0 := Lib.hid (show ((w.alloc (.cells #[.int .u8 k, .string S, .slice ql nl cl, .slice qh nh ch, .slice qz nz cz] 35)).alloc (.cells #[.int .u16 x0, .int .u16 x1] 57)).heap[w.heap.size + 1]? = some (.cells #[.int .u16 x0, .int .u16 x1] 57) from heap_alloc2_new w _ _)
  have HSz := Lib.hid (show w.heap.size + 2 = ((w.alloc (.cells #[.int .u8 k, .string S, .slice ql nl cl, .slice qh nh ch, .slice qz nz cz] 35)).alloc (.cells #[.int .u16 x0, .int .u16 x1] 57)).heap.size by simp)
  have C0 := Lib.hid (fun W => shown_any W)
  have HA := Lib.hid H
  have HSs := Lib.hid hS
  clear H hS
  go_enter Try.func8, Try.ntmps8
  go_wp2_with fail
  generalize (w.alloc (.cells #[.int .u8 k, .string S, .slice ql nl cl, .slice qh nh ch, .slice qz nz cz] 35)).alloc (.cells #[.int .u16 x0, .int .u16 x1] 57) = w1 at HV0 HB0 HD0 HSz ⊢
  refine (C0.out _).mono ?_
  rintro e w2 ⟨rfl, hb2⟩
  have HB2 := Lib.hid (HB0.out.trans (hb2.mono HB0.out.size))
  have HV2 := Lib.hid (HV0.out.keep hb2)
  have HD2 := Lib.hid (show w2.heap[w.heap.size + 1]? = some (.cells #[.int .u16 x0, .int .u16 x1] 57) by rw [hb2.block _ (Array.getElem?_eq_some_iff.1 HD0.out).1]; exact HD0.out)
  have CN := Lib.hid (tnew w w2 HB2.out)
  clear hb2 C0 HB0 HV0 HD0 HSz
  go_wp2_with fail
  refine CN.out.mono ?_
  rintro e w3 ⟨s, rfl, h3, hb3⟩
  have HV3 := Lib.hid (HV2.out.keep hb3)
  have H3 := Lib.hid h3
  have HD3 := Lib.hid (show w3.heap[w.heap.size + 1]? = some (.cells #[.int .u16 x0, .int .u16 x1] 57) ∧ w.heap.size + 1 < w2.heap.size by
    have := (Array.getElem?_eq_some_iff.1 HD2.out).1
    exact ⟨by rw [hb3.block _ this]; exact HD2.out, this⟩)
  have CFt := Lib.hid (rfit k S ql nl cl qh nh ch qz nz cz dv w3 (HA.out.keep (HB2.out.trans (hb3.mono HB2.out.size))) HSs.out)
  obtain ⟨-, -, a0, a1, a2, a3, a4⟩ := HV3.out
  clear h3 hb3 CN HV2 HD2 HA HSs
  go_wp2_with fail
  with_reducible refine CFt.out.mono ?_
  rintro e w4 ⟨v, rfl, hv, hb4⟩
  have hr := fit_right dv
  obtain ⟨l1, l2, l3⟩ := fit_len dv
  obtain ⟨p, rfl, hp, hpd, hpk, hpb⟩ := pv_of hv (by have := right_kind hr; omega) l1 l2 l3
  obtain ⟨d, hdd⟩ : ∃ d, d = fitV dv := ⟨_, rfl⟩
  rw [← hdd] at hr hpd hpk
  have HR := Lib.hid hr
  have HPd := Lib.hid hpd
  have HPk := Lib.hid hpk
  have h4 := (H3.out.on (sstb s) noSt_stb hb4).1
  have HD4 := Lib.hid (show w4.heap[w.heap.size + 1]? = some (.cells #[.int .u16 x0, .int .u16 x1] 57) by rw [hb4.block _ (Array.getElem?_eq_some_iff.1 HD3.out.1).1]; exact HD3.out.1)
  have HP4 := Lib.hid hp
  clear hv hr l1 l2 l3 hpd hpk hdd CFt hp a0 a1 a2 a3 a4
  obtain ⟨pk, pS, pql, pnl, pcl, pqh, pnh, pch, pqz, pnz, pcz, pd⟩ := p
  simp only at HPd HPk
  obtain rfl := HPd.out
  have HQ := Lib.hid (hpb)
  have HV5 := Lib.hid (VCells.new w4 (.int .u8 pk) (.string pS) (.slice pql pnl pcl) (.slice pqh pnh pch) (.slice pqz pnz pcz) w4.heap.size rfl)
  have H5 := Lib.hid (h4.on (sstb s) noSt_stb (show Below w4.heap.size w4 (w4.alloc (.cells #[.int .u8 pk, .string pS, .slice pql pnl pcl, .slice pqh pnh pch, .slice pqz pnz pcz] 35)) from (Below.refl _ _).alloc (Nat.le_refl _) _)).1
  have HB5 := Lib.hid (show Below w4.heap.size w4 (w4.alloc (.cells #[.int .u8 pk, .string pS, .slice pql pnl pcl, .slice pqh pnh pch, .slice pqz pnz pcz] 35)) from (Below.refl _ _).alloc (Nat.le_refl _) _)
  clear h4 hpb H3 HV3
  unfold PV.agg
  obtain ⟨X, hX⟩ : ∃ X : Nat → Prop, X = fun k => ((k < w2.heap.size ∨ (w3.heap.size ≤ k ∧ k < w4.heap.size)) ∨ (w4.heap.size ≤ k ∧ k < (w4.alloc (.cells #[.int .u8 pk, .string pS, .slice pql pnl pcl, .slice pqh pnh pch, .slice pqz pnz pcz] 35)).heap.size)) := ⟨_, rfl⟩
  rw [← hX] at H5
  have HX1 := Lib.hid (show ∀ k, (⟨pk, pS, pql, pnl, pcl, pqh, pnh, pch, pqz, pnz, pcz, pd⟩ : PV).at_ k → X k from fun k hk => by rw [hX]; exact Or.inl (Or.inr (HQ.out k hk)))
  have HX2 := Lib.hid (show X w4.heap.size by rw [hX]; exact Or.inr ⟨Nat.le_refl _, HV5.out.lt⟩)
  have HX3 := Lib.hid (show X (w.heap.size + 1) by rw [hX]; exact Or.inl (Or.inl HD3.out.2))
  clear hX HD3
  have hpk := HPk.out
  by_cases hz : pd.kind = 0
  · have hk0 : (pk == 0) = true := by rw [hpk, hz]; rfl
    obtain ⟨-, -, c0, c1, c2, c3, c4⟩ := HV5.out
    have CD := Lib.hid (tsetdue noSt_stb H5.out (by decide) ⟨#[97]⟩ [97] 5 true key_a)
    rw [show setDueB [97] (s0 : Sd V) = false from rfl] at CD
    clear hpk hz
    go_wp2_with fail
    refine CD.out.mono ?_
    rintro e w6 ⟨rfl, h6, -⟩
    have HB := Lib.hid h6.below
    go_wp2_with fail
    go_ret
    exact ⟨rfl, HB.out⟩
  · have hk0 : (pk == 0) = false := by rw [hpk, beq_eq_false_iff_ne]; omega
    obtain ⟨-, -, c0, c1, c2, c3, c4⟩ := HV5.out
    have HZ := Lib.hid hz
    have e0 : (w4.alloc (.cells #[.int .u8 pk, .string pS, .slice pql pnl pcl, .slice pqh pnh pch, .slice pqz pnz pcz] 35)).cell? ⟨w.heap.size + 1, 0, none⟩ = some (.int .u16 x0) := by
      rw [cell_of_row _ _ _ _ 57 _ (by rw [HB5.out.block _ (Array.getElem?_eq_some_iff.1 HD4.out).1]; exact HD4.out)]
      rfl
    have e1 : (w4.alloc (.cells #[.int .u8 pk, .string pS, .slice pql pnl pcl, .slice pqh pnh pch, .slice pqz pnz pcz] 35)).cell? ⟨w.heap.size + 1, 1, none⟩ = some (.int .u16 x1) := by
      rw [cell_of_row _ _ _ _ 57 _ (by rw [HB5.out.block _ (Array.getElem?_eq_some_iff.1 HD4.out).1]; exact HD4.out)]
      rfl
    obtain ⟨r0, hr0⟩ : ∃ r : Nat, x0 % 1024 = (r : Int) := ⟨(x0 % 1024).toNat, by omega⟩
    obtain ⟨r1, hr1⟩ : ∃ r : Nat, x1 % 1024 = (r : Int) := ⟨(x1 % 1024).toNat, by omega⟩
    obtain ⟨m, hm⟩ : ∃ r : Nat, xn % 1025 = (r : Int) := ⟨(xn % 1025).toNat, by omega⟩
    have g0 : x0.tmod 1024 = (r0 : Int) := by rw [Int.tmod_eq_emod_of_nonneg hx0.1]; exact hr0
    have g1 : x1.tmod 1024 = (r1 : Int) := by rw [Int.tmod_eq_emod_of_nonneg hx1.1]; exact hr1
    have gm : xn.tmod 1025 = (m : Int) := by rw [Int.tmod_eq_emod_of_nonneg hxn.1]; exact hm
    obtain ⟨y0, y1⟩ := hx0
    obtain ⟨y2, y3⟩ := hx1
    obtain ⟨y4, y5⟩ := hxn
    have r0b : (r0 : Int) ≤ 1023 := by omega
    have r1b : (r1 : Int) ≤ 1023 := by omega
    have mb : (m : Int) ≤ 1024 := by omega
    have CP := fun (K : ByteArray) (kk : List UInt8) (hK : MapF.KeyIs K kk) (W : World) (D : Sd V) (hW : Tw (SSt s) NoSt w X W D s0) (hn : D.n ≤ 100000) (hin : (⟨pk, pS, pql, pnl, pcl, pqh, pnh, pch, pqz, pnz, pcz, pd⟩ : PV).In W) => tput noSt_stb hW hn K kk hK ⟨pk, pS, pql, pnl, pcl, pqh, pnh, pch, pqz, pnz, pcz, pd⟩ hin HX1.out HR.out
    have HCP := Lib.hid CP
    have HIn := Lib.hid (fun (W W' : World) (h : (⟨pk, pS, pql, pnl, pcl, pqh, pnh, pch, pqz, pnz, pcz, pd⟩ : PV).In W) (hk : Keep X W W') => h.same hk.1 (fun k h1 => hk.2 k (HX1.out k h1)))
    have HI5 := Lib.hid (HP4.out.same HB5.out.size (fun k h1 => HB5.out.block k (HQ.out k h1).2))
    have ha : 0 < (1 + (r0 : Int)) := by omega
    have hb : 0 < (1 + (r1 : Int)) := by omega
    have HS3 := Lib.hid (w3_sh HZ.out)
    have HS10 := Lib.hid (w10_sh HZ.out ha hb)
    have HDu := Lib.hid (due_facts HZ.out ha hb)
    have HGe := Lib.hid (get_facts HZ.out ha hb (show m ≤ 2000 by omega))
    have HNn := Lib.hid (⟨HS3.out.1.n, HS3.out.2.1.n, HS3.out.2.2.n, HS10.out.1.n, HS10.out.2.1.n, HS10.out.2.2.1.n, HS10.out.2.2.2.1.n, HS10.out.2.2.2.2.1.n, HS10.out.2.2.2.2.2.1.n, HS10.out.2.2.2.2.2.2.n⟩ : _ ∧ _ ∧ _ ∧ _ ∧ _ ∧ _ ∧ _ ∧ _ ∧ _ ∧ _)
    clear CP hpk hz HP4 HB5 HD4 HX3
    have CC := Lib.hid (HCP.out ⟨#[97]⟩ [97] key_a _ _ H5.out (by decide) HI5.out)
    go_wp2_with fail
    generalize w4.alloc (.cells #[.int .u8 pk, .string pS, .slice pql pnl pcl, .slice pqh pnh pch, .slice pqz pnz pcz] 35) = w5 at H5 HV5 HI5 CC c0 c1 c2 c3 c4 e0 e1 ⊢
    clear e0 e1
    refine CC.out.mono ?_
    rintro e w6 ⟨rfl, h6, hk6⟩
    have H6 := Lib.hid (show Tw (SSt s) NoSt w X w6 (W1 pd) s0 from h6)
    have HV6 := Lib.hid (keep_cells HV5.out hk6 HX2.out)
    have HI6 := Lib.hid (HIn.out _ _ HI5.out hk6)
    clear CC c0 c1 c2 c3 c4 h6 hk6 H5 HV5 HI5
    obtain ⟨-, -, c0, c1, c2, c3, c4⟩ := HV6.out
    have CC := Lib.hid (HCP.out ⟨#[98]⟩ [98] key_b _ _ H6.out (by rw [HNn.out.1]; decide) HI6.out)
    go_wp2_with fail
    refine CC.out.mono ?_
    rintro e w7 ⟨rfl, h7, hk7⟩
    have H7 := Lib.hid (show Tw (SSt s) NoSt w X w7 (W2 pd) s0 from h7)
    have HV7 := Lib.hid (keep_cells HV6.out hk7 HX2.out)
    have HI7 := Lib.hid (HIn.out _ _ HI6.out hk7)
    clear CC c0 c1 c2 c3 c4 h7 hk7 H6 HV6 HI6
    obtain ⟨-, -, c0, c1, c2, c3, c4⟩ := HV7.out
    have CC := Lib.hid (HCP.out ⟨#[99]⟩ [99] key_c _ _ H7.out (by rw [HNn.out.2.1]; decide) HI7.out)
    go_wp2_with fail
    refine CC.out.mono ?_
    rintro e w8 ⟨rfl, h8, hk8⟩
    have H8 := Lib.hid (show Tw (SSt s) NoSt w X w8 (W3 pd) s0 from h8)
    have HV8 := Lib.hid (keep_cells HV7.out hk8 HX2.out)
    have HI8 := Lib.hid (HIn.out _ _ HI7.out hk8)
    clear CC c0 c1 c2 c3 c4 h8 hk8 H7 HV7 HI7
    obtain ⟨-, -, c0, c1, c2, c3, c4⟩ := HV8.out
    have CC := Lib.hid (tsetdue noSt_stb H8.out (by rw [HNn.out.2.2.1]; decide) ⟨#[97]⟩ [97] (1 + (r0 : Int)) true rfl)
    go_wp2_with fail
    refine CC.out.mono ?_
    rintro e w9 ⟨rfl, h9, hk9⟩
    have H9 := Lib.hid (show Tw (SSt s) NoSt w X w9 (W4 pd (1 + (r0 : Int))) s0 from h9)
    have HV9 := Lib.hid (keep_cells HV8.out hk9 HX2.out)
    have HI9 := Lib.hid (HIn.out _ _ HI8.out hk9)
    clear CC c0 c1 c2 c3 c4 h9 hk9 H8 HV8 HI8
    obtain ⟨-, -, c0, c1, c2, c3, c4⟩ := HV9.out
    have CC := Lib.hid (tsetdue noSt_stb H9.out (by rw [HNn.out.2.2.2.1]; decide) ⟨#[97]⟩ [97] (1 + (r1 : Int)) true rfl)
    go_wp2_with fail
    refine CC.out.mono ?_
    rintro e w10 ⟨rfl, h10, hk10⟩
    have H10 := Lib.hid (show Tw (SSt s) NoSt w X w10 (W5 pd (1 + (r0 : Int)) (1 + (r1 : Int))) s0 from h10)
    have HV10 := Lib.hid (keep_cells HV9.out hk10 HX2.out)
    have HI10 := Lib.hid (HIn.out _ _ HI9.out hk10)
    clear CC c0 c1 c2 c3 c4 h10 hk10 H9 HV9 HI9
    obtain ⟨-, -, c0, c1, c2, c3, c4⟩ := HV10.out
    have CC := Lib.hid (tsetdue noSt_stb H10.out (by rw [HNn.out.2.2.2.2.1]; decide) ⟨#[98]⟩ [98] (1 + (r0 : Int)) true rfl)
    go_wp2_with fail
    refine CC.out.mono ?_
    rintro e w11 ⟨rfl, h11, hk11⟩
    have H11 := Lib.hid (show Tw (SSt s) NoSt w X w11 (W6 pd (1 + (r0 : Int)) (1 + (r1 : Int))) s0 from h11)
    have HV11 := Lib.hid (keep_cells HV10.out hk11 HX2.out)
    have HI11 := Lib.hid (HIn.out _ _ HI10.out hk11)
    clear CC c0 c1 c2 c3 c4 h11 hk11 H10 HV10 HI10
    obtain ⟨-, -, c0, c1, c2, c3, c4⟩ := HV11.out
    have CC := Lib.hid (tsetdue noSt_stb H11.out (by rw [HNn.out.2.2.2.2.2.1]; decide) ⟨#[98]⟩ [98] (1 + (r0 : Int)) false rfl)
    go_wp2_with fail
    refine CC.out.mono ?_
    rintro e w12 ⟨rfl, h12, hk12⟩
    have H12 := Lib.hid (show Tw (SSt s) NoSt w X w12 (W7 pd (1 + (r0 : Int)) (1 + (r1 : Int))) s0 from h12)
    have HV12 := Lib.hid (keep_cells HV11.out hk12 HX2.out)
    have HI12 := Lib.hid (HIn.out _ _ HI11.out hk12)
    clear CC c0 c1 c2 c3 c4 h12 hk12 H11 HV11 HI11
    obtain ⟨-, -, c0, c1, c2, c3, c4⟩ := HV12.out
    have CC := Lib.hid (tsetdue noSt_stb H12.out (by rw [HNn.out.2.2.2.2.2.2.1]; decide) ⟨#[99]⟩ [99] (1 + (r0 : Int)) true rfl)
    go_wp2_with fail
    refine CC.out.mono ?_
    rintro e w13 ⟨rfl, h13, hk13⟩
    have H13 := Lib.hid (show Tw (SSt s) NoSt w X w13 (W8 pd (1 + (r0 : Int)) (1 + (r1 : Int))) s0 from h13)
    have HV13 := Lib.hid (keep_cells HV12.out hk13 HX2.out)
    have HI13 := Lib.hid (HIn.out _ _ HI12.out hk13)
    clear CC c0 c1 c2 c3 c4 h13 hk13 H12 HV12 HI12
    obtain ⟨-, -, c0, c1, c2, c3, c4⟩ := HV13.out
    have CC := Lib.hid (tput noSt_stb H13.out (by rw [HNn.out.2.2.2.2.2.2.2.1]; decide) ⟨#[99]⟩ [99] key_c pv0 (pv0_in _) (fun k hk => absurd hk (pv0_at k)) (Or.inl ⟨rfl, rfl, rfl, rfl, rfl⟩))
    go_wp2_with fail
    refine CC.out.mono ?_
    rintro e w14 ⟨rfl, h14, hk14⟩
    have H14 := Lib.hid (show Tw (SSt s) NoSt w X w14 (W9 pd (1 + (r0 : Int)) (1 + (r1 : Int))) s0 from h14)
    have HV14 := Lib.hid (keep_cells HV13.out hk14 HX2.out)
    have HI14 := Lib.hid (HIn.out _ _ HI13.out hk14)
    clear CC c0 c1 c2 c3 c4 h14 hk14 H13 HV13 HI13
    obtain ⟨-, -, c0, c1, c2, c3, c4⟩ := HV14.out
    have CC := Lib.hid (HCP.out ⟨#[99]⟩ [99] key_c _ _ H14.out (by rw [HNn.out.2.2.2.2.2.2.2.2.1]; decide) HI14.out)
    go_wp2_with fail
    refine CC.out.mono ?_
    rintro e w15 ⟨rfl, h15, hk15⟩
    have H15 := Lib.hid (show Tw (SSt s) NoSt w X w15 (W10 pd (1 + (r0 : Int)) (1 + (r1 : Int))) s0 from h15)
    have HV15 := Lib.hid (keep_cells HV14.out hk15 HX2.out)
    have HI15 := Lib.hid (HIn.out _ _ HI14.out hk15)
    clear CC c0 c1 c2 c3 c4 h15 hk15 H14 HV14 HI14
    obtain ⟨-, -, c0, c1, c2, c3, c4⟩ := HV15.out
    have CC := Lib.hid (tdue noSt_stb H15.out (by rw [HDu.out.2.2.2.1]; decide) ⟨#[97]⟩ [97] key_a)
    rw [HDu.out.1] at CC
    go_wp2_with fail
    refine CC.out.mono ?_
    rintro e w16 ⟨rfl, h16, hk16⟩
    have H16 := Lib.hid h16
    have HV16 := Lib.hid (keep_cells HV15.out hk16 HX2.out)
    clear CC c0 c1 c2 c3 c4 h16 hk16 H15 HV15
    obtain ⟨-, -, c0, c1, c2, c3, c4⟩ := HV16.out
    have CC := Lib.hid (tdue noSt_stb H16.out (by show (W10 pd (1 + (r0 : Int)) (1 + (r1 : Int))).n + 1 ≤ 100000; rw [HDu.out.2.2.2.1]; decide) ⟨#[98]⟩ [98] key_b)
    rw [HDu.out.2.1] at CC
    generalize (dueV [98] (getS [97] (W10 pd (1 + (r0 : Int)) (1 + (r1 : Int)))).L).1 = dv1 at CC
    go_wp2_with fail
    refine CC.out.mono ?_
    rintro e w17 ⟨rfl, h17, hk17⟩
    have H17 := Lib.hid h17
    have HV17 := Lib.hid (keep_cells HV16.out hk17 HX2.out)
    clear CC c0 c1 c2 c3 c4 h17 hk17 H16 HV16
    obtain ⟨-, -, c0, c1, c2, c3, c4⟩ := HV17.out
    have CC := Lib.hid (tdue noSt_stb H17.out (by show (W10 pd (1 + (r0 : Int)) (1 + (r1 : Int))).n + 2 ≤ 100000; rw [HDu.out.2.2.2.1]; decide) ⟨#[99]⟩ [99] key_c)
    rw [HDu.out.2.2.1] at CC
    generalize (dueV [99] (getS [98] (getS [97] (W10 pd (1 + (r0 : Int)) (1 + (r1 : Int))))).L).1 = dv2 at CC
    go_wp2_with fail
    refine CC.out.mono ?_
    rintro e w18 ⟨rfl, h18, hk18⟩
    have H18 := Lib.hid h18
    have HV18 := Lib.hid (keep_cells HV17.out hk18 HX2.out)
    clear CC c0 c1 c2 c3 c4 h18 hk18 H17 HV17
    obtain ⟨-, -, c0, c1, c2, c3, c4⟩ := HV18.out
    have CC := Lib.hid (ttick noSt_stb H18.out (by show (W13 pd (1 + (r0 : Int)) (1 + (r1 : Int))).n ≤ 100000; rw [HDu.out.2.2.2.2.1]; decide) (m : Int) (by omega) (by omega))
    go_wp2_with fail
    refine CC.out.mono ?_
    rintro e w19 ⟨rfl, h19, hk19⟩
    have H19 := Lib.hid (show Tw (SSt s) NoSt w X w19 (W14 pd (1 + (r0 : Int)) (1 + (r1 : Int)) m) s0 from h19)
    have HV19 := Lib.hid (keep_cells HV18.out hk19 HX2.out)
    clear CC c0 c1 c2 c3 c4 h19 hk19 H18 HV18
    obtain ⟨-, -, c0, c1, c2, c3, c4⟩ := HV19.out
    have heq : ((1 : Int) + (r1 : Int) == 1 + (r1 : Int)) = true := beq_self_eq_true _
    have hpp : (pk == pk) = true := beq_self_eq_true _
    have HN14 := Lib.hid HGe.out.1
    have CG := Lib.hid (fun W (hW : Tw (SSt s) NoSt w X W (W14 pd (1 + (r0 : Int)) (1 + (r1 : Int)) m) s0) => tget noSt_stb hW (by rw [HN14.out]; decide) ⟨#[97]⟩ [97] key_a)
    have CH := Lib.hid (fun W (hW : Tw (SSt s) NoSt w X W (getS [97] (W14 pd (1 + (r0 : Int)) (1 + (r1 : Int)) m)) s0) => tget noSt_stb hW (by show (W14 pd (1 + (r0 : Int)) (1 + (r1 : Int)) m).n + 1 ≤ 100000; rw [HN14.out]; decide) ⟨#[98]⟩ [98] key_b)
    have CI := Lib.hid (fun W (hW : Tw (SSt s) NoSt w X W (getS [98] (getS [97] (W14 pd (1 + (r0 : Int)) (1 + (r1 : Int)) m))) s0) => tget noSt_stb hW (by show (W14 pd (1 + (r0 : Int)) (1 + (r1 : Int)) m).n + 1 + 1 ≤ 100000; rw [HN14.out]; decide) ⟨#[99]⟩ [99] key_c)
    have HG2 := Lib.hid HGe.out.2.2.1
    have HG3 := Lib.hid HGe.out.2.2.2
    have HGd := Lib.hid (show Tw (SSt s) NoSt w X w19.drew (W14 pd (1 + (r0 : Int)) (1 + (r1 : Int)) m) s0 from ((H19.out.on (sstb s) noSt_stb (Below.refl w19.heap.size w19).drew).1).less (fun k hk => Or.inl hk))
    by_cases hlt : (m : Int) < 1 + (r1 : Int)
    · have dl : decide ((1 : Int) + (r1 : Int) ≤ (m : Int)) = false := decide_eq_false (by omega)
      have HG1 := Lib.hid (show (getV [97] (W14 pd (1 + (r0 : Int)) (1 + (r1 : Int)) m).L).getD v0 = pd by rw [HGe.out.2.1, if_pos hlt])
      go_wp2_with fail
      have c0d : w19.drew.cell? ⟨w4.heap.size, 0, none⟩ = some (.int .u8 pk) := c0
      go_region_held (fun W => W.cell? ⟨w4.heap.size, 0, none⟩ = some (.int .u8 pk)) (first | assumption)
        (first
        | (go_at_call 13; (with_reducible refine (CG.out _ (by first | exact HGd.out | exact H19.out)).mono ?_); rintro e wa ⟨p1, rfl, hp, hd, ht, hk⟩
           have ek : p1.k = pk := (kind_of hp hd).trans (by rw [HG1.out, HPk.out])
           have Ha := Lib.hid (ht.less (Y := X) (fun k hk => Or.inl hk))
           have HVa := Lib.hid (keep_cells (w := w19.drew) (show VCells w19.drew w4.heap.size _ _ _ _ _ from HV19.out.keep (Below.refl _ _).drew) hk HX2.out)
           have hf1 := fun W => fld_kind pk p1.S (.slice p1.ql p1.nl p1.cl) (.slice p1.qh p1.nh p1.ch) (.slice p1.qz p1.nz p1.cz) W
           unfold PV.agg
           rw [ek]
           clear hp hd ht hk ek
           have ca := HVa.out.c0)
        | (go_at_call 13; (with_reducible refine (CH.out _ Ha.out).mono ?_); rintro e wb ⟨p2, rfl, hp, hd, ht, hk⟩
           have ek : p2.k = pk := (kind_of hp hd).trans (by rw [HG2.out, HPk.out])
           have Hb := Lib.hid (ht.less (Y := X) (fun k hk => Or.inl hk))
           have HVb := Lib.hid (keep_cells HVa.out hk HX2.out)
           have hf2 := fun W => fld_kind pk p2.S (.slice p2.ql p2.nl p2.cl) (.slice p2.qh p2.nh p2.ch) (.slice p2.qz p2.nz p2.cz) W
           unfold PV.agg
           rw [ek]
           clear hp hd ht hk ek
           have cb := HVb.out.c0)
        | (go_at_call 13; (with_reducible refine (CI.out _ Hb.out).mono ?_); rintro e wc ⟨p3, rfl, hp, hd, ht, hk⟩
           have ek : p3.k = pk := (kind_of hp hd).trans (by rw [HG3.out, HPk.out])
           have HBe := Lib.hid ht.below
           have HVc := Lib.hid (keep_cells HVb.out hk HX2.out)
           have hf3 := fun W => fld_kind pk p3.S (.slice p3.ql p3.nl p3.cl) (.slice p3.qh p3.nh p3.ch) (.slice p3.qz p3.nz p3.cz) W
           unfold PV.agg
           rw [ek]
           clear hp hd ht hk ek
           have cc := HVc.out.c0))
      all_goals
        go_wp2_with fail
        go_ret
        exact ⟨rfl, HBe.out⟩
    · have dl : decide ((1 : Int) + (r1 : Int) ≤ (m : Int)) = true := decide_eq_true (by omega)
      have HG1 := Lib.hid (show (getV [97] (W14 pd (1 + (r0 : Int)) (1 + (r1 : Int)) m).L).getD v0 = v0 by rw [HGe.out.2.1, if_neg hlt])
      go_wp2_with fail
      have c0d : w19.drew.cell? ⟨w4.heap.size, 0, none⟩ = some (.int .u8 pk) := c0
      go_region_held (fun W => W.cell? ⟨w4.heap.size, 0, none⟩ = some (.int .u8 pk)) (first | assumption)
        (first
        | (go_at_call 13; (with_reducible refine (CG.out _ (by first | exact HGd.out | exact H19.out)).mono ?_); rintro e wa ⟨p1, rfl, hp, hd, ht, hk⟩
           have ek : p1.k = 0 := (kind_of hp hd).trans (by rw [HG1.out]; rfl)
           have Ha := Lib.hid (ht.less (Y := X) (fun k hk => Or.inl hk))
           have HVa := Lib.hid (keep_cells (w := w19.drew) (show VCells w19.drew w4.heap.size _ _ _ _ _ from HV19.out.keep (Below.refl _ _).drew) hk HX2.out)
           have hf1 := fun W => fld_kind 0 p1.S (.slice p1.ql p1.nl p1.cl) (.slice p1.qh p1.nh p1.ch) (.slice p1.qz p1.nz p1.cz) W
           unfold PV.agg
           rw [ek]
           clear hp hd ht hk ek
           have ca := HVa.out.c0)
        | (go_at_call 13; (with_reducible refine (CH.out _ Ha.out).mono ?_); rintro e wb ⟨p2, rfl, hp, hd, ht, hk⟩
           have ek : p2.k = pk := (kind_of hp hd).trans (by rw [HG2.out, HPk.out])
           have Hb := Lib.hid (ht.less (Y := X) (fun k hk => Or.inl hk))
           have HVb := Lib.hid (keep_cells HVa.out hk HX2.out)
           have hf2 := fun W => fld_kind pk p2.S (.slice p2.ql p2.nl p2.cl) (.slice p2.qh p2.nh p2.ch) (.slice p2.qz p2.nz p2.cz) W
           unfold PV.agg
           rw [ek]
           clear hp hd ht hk ek
           have cb := HVb.out.c0)
        | (go_at_call 13; (with_reducible refine (CI.out _ Hb.out).mono ?_); rintro e wc ⟨p3, rfl, hp, hd, ht, hk⟩
           have ek : p3.k = pk := (kind_of hp hd).trans (by rw [HG3.out, HPk.out])
           have HBe := Lib.hid ht.below
           have HVc := Lib.hid (keep_cells HVb.out hk HX2.out)
           have hf3 := fun W => fld_kind pk p3.S (.slice p3.ql p3.nl p3.cl) (.slice p3.qh p3.nh p3.ch) (.slice p3.qz p3.nz p3.cz) W
           unfold PV.agg
           rw [ek]
           clear hp hd ht hk ek
           have cc := HVc.out.c0))
      all_goals
        go_wp2_with fail
        go_ret
        exact ⟨rfl, HBe.out⟩

end Go.Proofs.Ytbcjgkedlapmhaa.storeDues
