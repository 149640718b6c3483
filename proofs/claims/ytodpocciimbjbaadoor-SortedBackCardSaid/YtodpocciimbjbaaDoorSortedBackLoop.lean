/-
  SortedBack: its first loop: marks are put in, in two orders.
-/
import Derived.Test.YtodpocciimbjbaaDoorSrtTurn
import Derived.Test.YtodpocciimbjbaaDoorRefVals
import Derived.Test.YtodpocciimbjbaaDoorRef01
import Derived.Deep.QuietTactic
import Derived.Deep.DeepCutAuto
import Derived.BigQuiet
import Derived.StillTailTactics
import Derived.Deep.RegionLaw
namespace Go.Proofs.YtodpocciimbjbaaDoor.sortedBack
open Go.RowKit Kit StrT RowG BOrd ValT StoT ReplyT ReplyMath ValM BytesIn DoT Low SrtT NumL NumW NumMath ReplyM SrtM SaidT RefR DoV LawK SrtL RefV ReplyM
set_option linter.unusedVariables false
set_option maxRecDepth 100000


noncomputable def body1 : Code := (((Tryd.f4.body.map loopsOf).getD []).getD 0 .skip)
noncomputable def body2 : Code := (((Tryd.f4.body.map loopsOf).getD []).getD 1 .skip)

set_option maxHeartbeats 16000000 in
theorem loop1_any (w w10 : World) (q : Option Addr) (v : Nat → Int) (c m kx ga gb : Nat)
    (hHG : ∀ W, Below w.heap.size w W → Gd W) (hHB : Below w.heap.size w w10) (hcn : m ≤ c) (hcm : c ≤ 9223372036854775807) (hHS : ∀ W, Below w.heap.size w W → ∀ i, i < m → ∃ b off, q = some ⟨b, off, none⟩ ∧ b < w.heap.size ∧ W.cell? ⟨b, off + i, none⟩ = some (.int .i64 (v i))) (hm8 : m ≤ 8) (hk : kx ≤ m) (hv : ∀ i, inI (v i))
    (hga : VB w10 ga pv0) (hgb : VB w10 gb pv0) (hab : ga ≠ gb) (hwa : w.heap.size ≤ ga) (hwb : w.heap.size ≤ gb)
    {c1 c2 c3 c4 c5 c11 c12 c13 c14 c15 c16 c17 c18 c19 c20 c21 c22 c23 c24 c25 c26 c27 c28 c29 c30 c31 c32 c33 c34 c35 c36 c37 c38 c39 c40 c41 c42 c43 c44 c45 c46 c47 c48 c49 c50 c51 c52 c53 c54 c55 c56 c57 c58 c59 c60 c61 c62 c63 c64 c65 c66 c67 c68 c69 c70 c71 c72 c73 c74 c75 c76 c77 c78 c79 c80 c81 c82 c83 c84 c85 c86 c87 c88 c89 c90 c91 c92 c93 c94 c95 c96 c97 c98 c99 c100 c101 c102 c103 c104 c105 c106 c107 c108 c109 c110 c111 c112 c113 c114 c115 c116 c117 c118 c119 c120 c121 c122 c123 c124 c125 c126 c127 c128 c129 c130 c131 c132 c133 c134 c135 c136 c137 c138 c139 c140 c141 c142 c143 c144 c145 c146 c147 c148 c149 c150 c151 c152 c153 c154 c155 c156 c157 c158 c159 c160 c161 c162 c163 c164 c165 c166 c167 c168 c169 c170 c171 c172 c173 c174 c175 c176 c177 c178 c179 c180 c181 c182 c183 c184 c185 c186 c187 c188 c189 c190 c191 c192 c193 c194 c195 c196 c197 c198 c199 c200 c201 c202 c203 c204 c205 c206 c207 c208 c209 c210 c211 c212 c213 c214 c215 c216 c217 c218 : Value} (K0 : Act → World → Prop) (hexit : ∀ (v10 v11 v34 v35 v36 v37 v38 v39 v40 v41 v42 v43 v44 v45 v46 v47 v48 v49 v50 v51 v52 v53 v54 v55 v56 v57 v58 v59 v60 v61 v62 v63 v64 v65 v66 v67 v68 v69 v70 v71 v72 v73 v74 v75 v76 v77 v78 v79 v80 v81 v82 v83 v84 v85 v86 v87 v88 : Value) (w' : World) (p r : PV), p.d = zV (putI nmL v (List.range m)) → r.d = zV (putI nmL v (rotL kx m m)) → VB w' ga p → VB w' gb r → Below w.heap.size w w' → K0 ⟨List.toArray ((.slice q m c) :: (c1) :: (c2) :: (c3) :: (c4) :: (c5) :: (.string ⟨#[97, 98, 99, 100, 101, 102, 103, 104]⟩) :: (.int .i64 (kx : Int)) :: (.pointer (some ⟨ga, 0, none⟩)) :: (.pointer (some ⟨gb, 0, none⟩)) :: (v10) :: (v11) :: (c12) :: (c13) :: (c14) :: (c15) :: (c16) :: (c17) :: (c18) :: (c19) :: (c20) :: (c21) :: (c22) :: (c23) :: (c24) :: (c25) :: (c26) :: (c27) :: (c28) :: (c29) :: (c30) :: (c31) :: (c32) :: (c33) :: (v34) :: (v35) :: (v36) :: (v37) :: (v38) :: (v39) :: (v40) :: (v41) :: (v42) :: (v43) :: (v44) :: (v45) :: (v46) :: (v47) :: (v48) :: (v49) :: (v50) :: (v51) :: (v52) :: (v53) :: (v54) :: (v55) :: (v56) :: (v57) :: (v58) :: (v59) :: (v60) :: (v61) :: (v62) :: (v63) :: (v64) :: (v65) :: (v66) :: (v67) :: (v68) :: (v69) :: (v70) :: (v71) :: (v72) :: (v73) :: (v74) :: (v75) :: (v76) :: (v77) :: (v78) :: (v79) :: (v80) :: (v81) :: (v82) :: (v83) :: (v84) :: (v85) :: (v86) :: (v87) :: (v88) :: (c89) :: (c90) :: (c91) :: (c92) :: (c93) :: (c94) :: (c95) :: (c96) :: (c97) :: (c98) :: (c99) :: (c100) :: (c101) :: (c102) :: (c103) :: (c104) :: (c105) :: (c106) :: (c107) :: (c108) :: (c109) :: (c110) :: (c111) :: (c112) :: (c113) :: (c114) :: (c115) :: (c116) :: (c117) :: (c118) :: (c119) :: (c120) :: (c121) :: (c122) :: (c123) :: (c124) :: (c125) :: (c126) :: (c127) :: (c128) :: (c129) :: (c130) :: (c131) :: (c132) :: (c133) :: (c134) :: (c135) :: (c136) :: (c137) :: (c138) :: (c139) :: (c140) :: (c141) :: (c142) :: (c143) :: (c144) :: (c145) :: (c146) :: (c147) :: (c148) :: (c149) :: (c150) :: (c151) :: (c152) :: (c153) :: (c154) :: (c155) :: (c156) :: (c157) :: (c158) :: (c159) :: (c160) :: (c161) :: (c162) :: (c163) :: (c164) :: (c165) :: (c166) :: (c167) :: (c168) :: (c169) :: (c170) :: (c171) :: (c172) :: (c173) :: (c174) :: (c175) :: (c176) :: (c177) :: (c178) :: (c179) :: (c180) :: (c181) :: (c182) :: (c183) :: (c184) :: (c185) :: (c186) :: (c187) :: (c188) :: (c189) :: (c190) :: (c191) :: (c192) :: (c193) :: (c194) :: (c195) :: (c196) :: (c197) :: (c198) :: (c199) :: (c200) :: (c201) :: (c202) :: (c203) :: (c204) :: (c205) :: (c206) :: (c207) :: (c208) :: (c209) :: (c210) :: (c211) :: (c212) :: (c213) :: (c214) :: (c215) :: (c216) :: (c217) :: (c218) :: []), []⟩ w') :
    Code.wp Tryd.prog (Code.loop body1) (Exit.inBlock 0 (Exit.then K0 (bodyPost Tryd.prog Tryd.f4 (fun e w' => e = .returned (.bool true) ∧ Below w.heap.size w w')))) ⟨List.toArray ((.slice q m c) :: (c1) :: (c2) :: (c3) :: (c4) :: (c5) :: (.string ⟨#[97, 98, 99, 100, 101, 102, 103, 104]⟩) :: (.int .i64 (kx : Int)) :: (.pointer (some ⟨ga, 0, none⟩)) :: (.pointer (some ⟨gb, 0, none⟩)) :: (.int .i64 0) :: (c11) :: (c12) :: (c13) :: (c14) :: (c15) :: (c16) :: (c17) :: (c18) :: (c19) :: (c20) :: (c21) :: (c22) :: (c23) :: (c24) :: (c25) :: (c26) :: (c27) :: (c28) :: (c29) :: (c30) :: (c31) :: (c32) :: (c33) :: (c34) :: (c35) :: (c36) :: (c37) :: (c38) :: (c39) :: (c40) :: (c41) :: (c42) :: (c43) :: (c44) :: (c45) :: (c46) :: (c47) :: (c48) :: (c49) :: (c50) :: (c51) :: (c52) :: (c53) :: (c54) :: (c55) :: (c56) :: (c57) :: (c58) :: (c59) :: (c60) :: (c61) :: (c62) :: (c63) :: (c64) :: (c65) :: (c66) :: (c67) :: (c68) :: (c69) :: (c70) :: (c71) :: (c72) :: (c73) :: (c74) :: (c75) :: (c76) :: (c77) :: (c78) :: (c79) :: (c80) :: (c81) :: (c82) :: (c83) :: (c84) :: (c85) :: (c86) :: (c87) :: (c88) :: (c89) :: (c90) :: (c91) :: (c92) :: (c93) :: (c94) :: (c95) :: (c96) :: (c97) :: (c98) :: (c99) :: (c100) :: (c101) :: (c102) :: (c103) :: (c104) :: (c105) :: (c106) :: (c107) :: (c108) :: (c109) :: (c110) :: (c111) :: (c112) :: (c113) :: (c114) :: (c115) :: (c116) :: (c117) :: (c118) :: (c119) :: (c120) :: (c121) :: (c122) :: (c123) :: (c124) :: (c125) :: (c126) :: (c127) :: (c128) :: (c129) :: (c130) :: (c131) :: (c132) :: (c133) :: (c134) :: (c135) :: (c136) :: (c137) :: (c138) :: (c139) :: (c140) :: (c141) :: (c142) :: (c143) :: (c144) :: (c145) :: (c146) :: (c147) :: (c148) :: (c149) :: (c150) :: (c151) :: (c152) :: (c153) :: (c154) :: (c155) :: (c156) :: (c157) :: (c158) :: (c159) :: (c160) :: (c161) :: (c162) :: (c163) :: (c164) :: (c165) :: (c166) :: (c167) :: (c168) :: (c169) :: (c170) :: (c171) :: (c172) :: (c173) :: (c174) :: (c175) :: (c176) :: (c177) :: (c178) :: (c179) :: (c180) :: (c181) :: (c182) :: (c183) :: (c184) :: (c185) :: (c186) :: (c187) :: (c188) :: (c189) :: (c190) :: (c191) :: (c192) :: (c193) :: (c194) :: (c195) :: (c196) :: (c197) :: (c198) :: (c199) :: (c200) :: (c201) :: (c202) :: (c203) :: (c204) :: (c205) :: (c206) :: (c207) :: (c208) :: (c209) :: (c210) :: (c211) :: (c212) :: (c213) :: (c214) :: (c215) :: (c216) :: (c217) :: (c218) :: []), []⟩ w10 := by
  have HX := Lib.hid hexit
  have HG := Lib.hid hHG
  have HB := Lib.hid hHB
  have HS := Lib.hid hHS
  have HVn := Lib.hid hv
  have HA := Lib.hid hga
  have HBb := Lib.hid hgb
  have HAB := Lib.hid hab
  have HG_ga := Lib.hid hwa
  have HG_gb := Lib.hid hwb
  clear hexit hHG hHB hHS hv hga hgb hab hwa hwb
  have HE0 := Lib.hid (show PV.d pv0 = zV (putI nmL v (List.range 0)) from rfl)
  have HF0 := Lib.hid (show PV.d pv0 = zV (putI nmL v (rotL kx m 0)) from rfl)
  have HR0 := Lib.hid (show ∀ j, PV.at_ pv0 j → j ≠ ga ∧ j ≠ gb from fun j hj => absurd hj (pv0_at j))
  conv => arg 2; arg 1; whnf
  go_loopw [10] (fun i wr => ∃ (x : Nat) (p r : PV), x ≤ m ∧ i = .int .i64 (x : Int) ∧ Hid (p.d = zV (putI nmL v (List.range x))) ∧ Hid (r.d = zV (putI nmL v (rotL kx m x))) ∧ Hid (VB wr ga p) ∧ Hid (VB wr gb r) ∧ Hid (∀ j, p.at_ j → j ≠ ga ∧ j ≠ gb) ∧ Hid (∀ j, r.at_ j → j ≠ ga ∧ j ≠ gb) ∧ Hid (Below w.heap.size w wr)) (fun i _ => m - (intOf i).toNat)
  case atStart => exact ⟨0, pv0, pv0, Nat.zero_le _, rfl, HE0, HF0, HA, HBb, HR0, HR0, HB⟩
  case round =>
    clear HE0 HF0 HA HBb HR0 HB
    obtain ⟨x, p, r, hx, rfl, HDp, HDr, HVp, HVr, HRp, HRr, HB⟩ := hrel
    rename World => wr
    by_cases hlt : x < m
    · have t1 : decide ((x : Int) < (m : Int)) = true := decide_eq_true (by omega)
      have z1 : ((m : Int) == 0) = false := by rw [beq_eq_false_iff_ne]; omega
      have z2 : ¬ (m : Int) = 0 := by omega
      have z3 : ¬ m = 0 := by omega
      obtain ⟨jx, hjx⟩ : ∃ jx : Nat, jx = (x + kx) % m := ⟨_, rfl⟩
      have hjm : jx < m := by rw [hjx]; exact Nat.mod_lt _ (by omega)
      have HJ := Lib.hid (show ((x : Int) + (kx : Int)) % (m : Int) = (jx : Int) by rw [hjx, Int.natCast_emod, Int.natCast_add])
      have HJx := Lib.hid hjx
      clear hjx
      obtain ⟨Tx, hTx⟩ : ∃ Tx, Tx = nmB x := ⟨_, rfl⟩
      obtain ⟨Tj, hTj⟩ : ∃ Tj, Tj = nmB jx := ⟨_, rfl⟩
      have HTx := Lib.hid (show Tx.data.toList = nmL x by rw [hTx]; rfl)
      have HTj := Lib.hid (show Tj.data.toList = nmL jx by rw [hTj]; rfl)
      have sx := slice_names x (by omega)
      have sj := slice_names jx (by omega)
      rw [← hTx] at sx
      rw [← hTj] at sj
      have HSj := Lib.hid sj
      clear hTx hTj sj
      obtain ⟨F1, hF1⟩ : ∃ F : ByteArray, F = ⟨(Lib.itoa (v x)).toArray⟩ := ⟨_, rfl⟩
      have HVi1 := Lib.hid (HVn.out (x))
      have hF1z : F1.size ≤ 20 := by rw [hF1]; exact text_len _ HVi1.out.1 HVi1.out.2
      have HF1 := Lib.hid (show F1.data.toList = Lib.itoa (v x) by rw [hF1])
      have CT1 := Lib.hid (fun W => (show Calls Tryd.prog 12 #[.int .i64 (v x)] W (fun e w' => e = .returned (.string F1) ∧ Below W.heap.size W w') by rw [hF1]; exact Ref01.text_any (v x).natAbs (v x) W (Nat.le_refl _) HVi1.out.1 HVi1.out.2))
      clear hF1
      obtain ⟨F2, hF2⟩ : ∃ F : ByteArray, F = ⟨(Lib.itoa (v jx)).toArray⟩ := ⟨_, rfl⟩
      have HVi2 := Lib.hid (HVn.out (jx))
      have hF2z : F2.size ≤ 20 := by rw [hF2]; exact text_len _ HVi2.out.1 HVi2.out.2
      have HF2 := Lib.hid (show F2.data.toList = Lib.itoa (v jx) by rw [hF2])
      have CT2 := Lib.hid (fun W => (show Calls Tryd.prog 12 #[.int .i64 (v jx)] W (fun e w' => e = .returned (.string F2) ∧ Below W.heap.size W w') by rw [hF2]; exact Ref01.text_any (v jx).natAbs (v jx) W (Nat.le_refl _) HVi2.out.1 HVi2.out.2))
      clear hF2
      have hx0 : (0 : Int) ≤ (x : Int) := by omega
      have hxn : (x : Int) < (m : Int) := by omega
      have hj0 : (0 : Int) ≤ (jx : Int) := by omega
      have hjn : (jx : Int) < (m : Int) := by omega
      have HLp := Lib.hid (show (putI nmL v (List.range x)).length ≤ 8 from Nat.le_trans (putI_len nmL v _) (by simp; omega))
      have HLr := Lib.hid (show (putI nmL v (rotL kx m x)).length ≤ 8 from Nat.le_trans (putI_len nmL v _) (by rw [rot_len]; omega))
      have HNp := Lib.hid (putI_in nmL v HVn.out (List.range x))
      have HNr := Lib.hid (putI_in nmL v HVn.out (rotL kx m x))
      have HUp := Lib.hid (putI_up nmL v (List.range x))
      have HUr := Lib.hid (putI_up nmL v (rotL kx m x))
      have HQp := Lib.hid (show putI nmL v (List.range (x + 1)) = putZ (putI nmL v (List.range x)) Tx.data.toList (v x) by rw [List.range_succ, putI_snoc, HTx.out])
      have HQr := Lib.hid (show putI nmL v (rotL kx m (x + 1)) = putZ (putI nmL v (rotL kx m x)) Tj.data.toList (v jx) by rw [rot_snoc, putI_snoc, HTj.out, ← HJx.out])
      obtain ⟨bx, offx, eq1, hbx, hcx⟩ := HS.out wr HB.out x (by omega)
      obtain ⟨by1, offy, eq2, -, hcy⟩ := HS.out wr HB.out jx (by omega)
      rw [eq1] at eq2
      injection eq2 with eq2
      injection eq2 with ea eb
      subst ea eb
      subst eq1
      have HCx := Lib.hid (fun Y (hY : Below wr.heap.size wr Y) => (hY.cell (p := ⟨bx, offx + x, none⟩) (Nat.lt_of_lt_of_le hbx HB.out.size)).trans hcx)
      have HCj := Lib.hid (fun Y (hY : Below w.heap.size w Y) => (show Y.cell? ⟨bx, offx + jx, none⟩ = some (.int .i64 (v jx)) from by
        have h1 := hY.cell (p := ⟨bx, offx + jx, none⟩) hbx
        have h2 := HB.out.cell (p := ⟨bx, offx + jx, none⟩) hbx
        rw [h1, ← h2]
        exact hcy))
      obtain ⟨k1, S1, ql1, nl1, cl1, qh1, nh1, ch1, qz1, nz1, cz1, d1⟩ := p
      obtain ⟨k2, S2, ql2, nl2, cl2, qh2, nh2, ch2, qz2, nz2, cz2, d2⟩ := r
      have hJ := HJ.out
      have hJt : ((x : Int) + (kx : Int)).tmod (m : Int) = (jx : Int) := by rw [Int.tmod_eq_emod_of_nonneg (by omega)]; exact hJ
      have hJb : (x : Int) + (kx : Int) ≤ 16 := by omega
      have hwk : IntKind.i64.wrap ((x : Int) + (kx : Int)) = (x : Int) + (kx : Int) := IntWalk.i64_in _ (by omega)
      clear hcx hcy hbx
      go_upto_region 12 with fail
      clear hJ hJt hwk
      have hwx : IntKind.i64.wrap ((x : Int) + 1) = (x : Int) + 1 := IntWalk.i64_in _ (by omega)
      have CD := Lib.hid (fun (Y : World) (gq : Nat) (hB : Below w.heap.size w Y) (hpv : PV.In Y ⟨k1, S1, ql1, nl1, cl1, qh1, nh1, ch1, qz1, nz1, cz1, d1⟩) (hss : StrT.Ss Y (some ⟨gq, 0, none⟩) [(⟨#[122, 97, 100, 100]⟩ : ByteArray).data.toList, (⟨#[107]⟩ : ByteArray).data.toList, (F1 : ByteArray).data.toList, (Tx : ByteArray).data.toList]) => (show Calls Tryd.prog 11 #[.agg #[.int .u8 k1, .string S1, .slice ql1 nl1 cl1, .slice qh1 nh1 ch1, .slice qz1 nz1 cz1], .slice (some ⟨gq, 0, none⟩) 4 4] Y (DoN (zV (putZ (putI nmL v (List.range x)) Tx.data.toList (v x))) ((rowD 0 (putI nmL v (List.range x)) [(F1 : ByteArray).data.toList, Tx.data.toList]).2) Y) from don_to (add_row2 _ _ _ _ HF1.out HVi1.out.1 HVi1.out.2) (onR 0 (by decide) ⟨k1, S1, ql1, nl1, cl1, qh1, nh1, ch1, qz1, nz1, cz1, d1⟩ (putI nmL v (List.range x)) ⟨#[122, 97, 100, 100]⟩ ⟨#[107]⟩ [(F1 : ByteArray).data.toList, (Tx : ByteArray).data.toList] (some ⟨gq, 0, none⟩) 4 4 Y hpv HDp.out (HG.out Y hB) rfl (Nat.le_refl _) (by decide) hss (by decide) (by decide) ⟨HUp.out, HNp.out, by have := HLp.out; omega, Nat.le_refl 2, by show F1.data.toList.length ≤ _; rw [str_len]; omega⟩)))
      go_cut [] (fun wx => ∃ (k9 : Int) (S9 : ByteArray) (ql9 : Option Addr) (nl9 cl9 : Nat) (qh9 : Option Addr) (nh9 ch9 : Nat) (qz9 : Option Addr) (nz9 cz9 : Nat) (d9 : V), Hid (Trn w wr wx ga ⟨k9, S9, ql9, nl9, cl9, qh9, nh9, ch9, qz9, nz9, cz9, d9⟩ (zV (putZ (putI nmL v (List.range x)) Tx.data.toList (v x)))))
      case first =>
        have hr0 : VB _ ga ⟨k1, S1, ql1, nl1, cl1, qh1, nh1, ch1, qz1, nz1, cz1, d1⟩ := HVp.out
        obtain ⟨-, -, r00, r01, r02, r03, r04⟩ := hr0.room
        dsimp only at r00 r01 r02 r03 r04
        clear hr0
        have hl0 := HCx.out wr (Below.refl _ _)
        go_region_law (first
          | (go_simp; (with_reducible refine (CT1.out _).mono ?_); rintro e wq4 ⟨rfl, hb4⟩; dsimp only
             have hb4' : Below wr.heap.size wr wq4 := by first | exact hb4 | exact c_dr hb4
             have HW4 := Lib.hid hb4'
             have HB4 := Lib.hid (HB.out.trans (hb4'.mono HB.out.size))
             have K4 := Lib.hid (HVp.out.keep hb4')
             have hr1 : VB _ ga ⟨k1, S1, ql1, nl1, cl1, qh1, nh1, ch1, qz1, nz1, cz1, d1⟩ := K4.out
             obtain ⟨-, -, r10, r11, r12, r13, r14⟩ := hr1.room
             dsimp only at r10 r11 r12 r13 r14
             clear hr1
             have hr2 : VB _ ga ⟨k1, S1, ql1, nl1, cl1, qh1, nh1, ch1, qz1, nz1, cz1, d1⟩ := K4.out.keep (Kit.below1 _ (.cells #[.string ⟨#[122, 97, 100, 100]⟩, .string ⟨#[107]⟩, .string F1, .string Tx] 9))
             obtain ⟨-, -, r20, r21, r22, r23, r24⟩ := hr2.room
             dsimp only at r20 r21 r22 r23 r24
             clear hr2
             clear hb4 hb4')
          | (go_simp; (with_reducible refine (CD.out _ _ (by first | exact HB4.out.trans ((Kit.below1 wq4 _).mono HB4.out.size) | exact (HB4.out.trans ((Kit.below1 wq4 _).mono HB4.out.size)).drew) (by first | exact (K4.out.keep (Kit.below1 _ _)).pv | exact (K4.out.keep (Kit.below1 _ _).drew).pv) (by first | exact ss4_at wq4 _ rfl ⟨#[122, 97, 100, 100]⟩ ⟨#[107]⟩ F1 Tx | exact ss4_at _ _ (by simp) ⟨#[122, 97, 100, 100]⟩ ⟨#[107]⟩ F1 Tx | exact StrT.Ss.keep (ss4_at wq4 _ rfl ⟨#[122, 97, 100, 100]⟩ ⟨#[107]⟩ F1 Tx) (Below.refl _ _).drew)).mono ?_); rintro e wq5 ⟨p9, vr, rfl, hI, hd, hn, hA, hb5⟩; dsimp only [PV.agg]
             obtain ⟨k9, S9, ql9, nl9, cl9, qh9, nh9, ch9, qz9, nz9, cz9, d9⟩ := p9
             dsimp only
             have hb5q : Below wq4.heap.size wq4 wq5 := by first | exact c_al hb5 | exact c_al (c_dr hb5)
             have hb5' : Below wr.heap.size wr wq5 := HW4.out.trans (hb5q.mono HW4.out.size)
             have hK := HVp.out.keep hb5'
             have HTr := Lib.hid (trn_five (w := w) (wr := wr) (p := ⟨k9, S9, ql9, nl9, cl9, qh9, nh9, ch9, qz9, nz9, cz9, d9⟩) hK hI hd (fun j hj => by have h1 := hn j hj; have h2 := HW4.out.size; first | omega | (simp at h1; omega)) hb5' HB.out HG_ga.out HVp.out.lt)
             obtain ⟨-, -, r90, r91, r92, r93, r94⟩ := hK.room
             dsimp only at r90 r91 r92 r93 r94
             have y0 := hK.room.frz 0
             have y1 := hK.room.frz 1
             have y2 := hK.room.frz 2
             have y3 := hK.room.frz 3
             have y4 := hK.room.frz 4
             clear hI hd hn hA hb5 hb5' hb5q hK))
        all_goals
          go_wp2_with fail
          go_meet
          exact ⟨_, _, _, _, _, _, _, _, _, _, _, _, HTr⟩
      case rest =>
      obtain ⟨k9, S9, ql9, nl9, cl9, qh9, nh9, ch9, qz9, nz9, cz9, d9, HTr⟩ := hcut
      rename World => wa
      have HVr2 := Lib.hid (HTr.out.vb HVr.out (fun e => HAB.out e.symm) (fun j hj => (HRr.out j hj).1))
      have HVp2 := Lib.hid HTr.out.v
      have HDp2 := Lib.hid (show PV.d ⟨k9, S9, ql9, nl9, cl9, qh9, nh9, ch9, qz9, nz9, cz9, d9⟩ = zV (putI nmL v (List.range (x + 1))) by rw [HQp.out]; exact HTr.out.e)
      have HRp2 := Lib.hid (fun j (hj : PV.at_ ⟨k9, S9, ql9, nl9, cl9, qh9, nh9, ch9, qz9, nz9, cz9, d9⟩ j) => (show j ≠ ga ∧ j ≠ gb from by have h1 := HTr.out.n j hj; have := HVp.out.lt; have := HVr.out.lt; omega))
      have HB2 := Lib.hid HTr.out.b
      clear HTr CD HVp HVr HDp HRp HB HLp sx HTx HUp HNp HQp CT1 HF1 hF1z HCx HVi1
      have HB := HB2
      clear HB2
      clear hwx
      have sj := HSj.out
      have hwj : IntKind.i64.wrap ((jx : Int) + 1) = (jx : Int) + 1 := IntWalk.i64_in _ (by omega)
      go_upto_region 13 with fail
      have CD := Lib.hid (fun (Y : World) (gq : Nat) (hB : Below w.heap.size w Y) (hpv : PV.In Y ⟨k2, S2, ql2, nl2, cl2, qh2, nh2, ch2, qz2, nz2, cz2, d2⟩) (hss : StrT.Ss Y (some ⟨gq, 0, none⟩) [(⟨#[122, 97, 100, 100]⟩ : ByteArray).data.toList, (⟨#[107]⟩ : ByteArray).data.toList, (⟨#[55]⟩ : ByteArray).data.toList, (Tj : ByteArray).data.toList]) => (show Calls Tryd.prog 11 #[.agg #[.int .u8 k2, .string S2, .slice ql2 nl2 cl2, .slice qh2 nh2 ch2, .slice qz2 nz2 cz2], .slice (some ⟨gq, 0, none⟩) 4 4] Y (DoN (zV (putZ (putI nmL v (rotL kx m x)) Tj.data.toList 7)) ((rowD 0 (putI nmL v (rotL kx m x)) [(⟨#[55]⟩ : ByteArray).data.toList, Tj.data.toList]).2) Y) from don_to (add_row2 _ _ _ 7 itoa_7 (by decide) (by decide)) (onR 0 (by decide) ⟨k2, S2, ql2, nl2, cl2, qh2, nh2, ch2, qz2, nz2, cz2, d2⟩ (putI nmL v (rotL kx m x)) ⟨#[122, 97, 100, 100]⟩ ⟨#[107]⟩ [(⟨#[55]⟩ : ByteArray).data.toList, (Tj : ByteArray).data.toList] (some ⟨gq, 0, none⟩) 4 4 Y hpv HDr.out (HG.out Y hB) rfl (Nat.le_refl _) (by decide) hss (by decide) (by decide) ⟨HUr.out, HNr.out, by have := HLr.out; omega, Nat.le_refl 2, by show ([55] : List UInt8).length ≤ _; decide⟩)))
      go_cut [] (fun wx => ∃ (k7 : Int) (S7 : ByteArray) (ql7 : Option Addr) (nl7 cl7 : Nat) (qh7 : Option Addr) (nh7 ch7 : Nat) (qz7 : Option Addr) (nz7 cz7 : Nat) (d7 : V), Hid (Trn w wa wx gb ⟨k7, S7, ql7, nl7, cl7, qh7, nh7, ch7, qz7, nz7, cz7, d7⟩ (zV (putZ (putI nmL v (rotL kx m x)) Tj.data.toList 7))))
      case first =>
        have hr0 : VB _ gb ⟨k2, S2, ql2, nl2, cl2, qh2, nh2, ch2, qz2, nz2, cz2, d2⟩ := HVr2.out
        obtain ⟨-, -, r00, r01, r02, r03, r04⟩ := hr0.room
        dsimp only at r00 r01 r02 r03 r04
        clear hr0
        have hr1 : VB _ gb ⟨k2, S2, ql2, nl2, cl2, qh2, nh2, ch2, qz2, nz2, cz2, d2⟩ := HVr2.out.keep (Kit.below1 _ (.cells #[.string ⟨#[122, 97, 100, 100]⟩, .string ⟨#[107]⟩, .string ⟨#[55]⟩, .string Tj] 9))
        obtain ⟨-, -, r10, r11, r12, r13, r14⟩ := hr1.room
        dsimp only at r10 r11 r12 r13 r14
        clear hr1
        have hb1 := Kit.below1 wa (.cells #[.string ⟨#[122, 97, 100, 100]⟩, .string ⟨#[107]⟩, .string ⟨#[55]⟩, .string Tj] 9)
        have HW1 := Lib.hid hb1
        clear hb1
        go_region_law (first
          | (go_simp; (with_reducible refine (CD.out _ _ (by first | exact HB.out.trans (HW1.out.mono HB.out.size) | exact (HB.out.trans (HW1.out.mono HB.out.size)).drew) (by first | exact (HVr2.out.keep HW1.out).pv | exact (HVr2.out.keep HW1.out.drew).pv) (by first | exact ss4_at wa _ rfl ⟨#[122, 97, 100, 100]⟩ ⟨#[107]⟩ ⟨#[55]⟩ Tj | exact ss4_at _ _ (by simp) ⟨#[122, 97, 100, 100]⟩ ⟨#[107]⟩ ⟨#[55]⟩ Tj | exact StrT.Ss.keep (ss4_at wa _ rfl ⟨#[122, 97, 100, 100]⟩ ⟨#[107]⟩ ⟨#[55]⟩ Tj) (Below.refl _ _).drew)).mono ?_); rintro e wq5 ⟨p9, vr, rfl, hI, hd, hn, hA, hb5⟩; dsimp only [PV.agg]
             obtain ⟨k7, S7, ql7, nl7, cl7, qh7, nh7, ch7, qz7, nz7, cz7, d7⟩ := p9
             dsimp only
             have hb5q : Below wa.heap.size wa wq5 := by first | exact c_al hb5 | exact c_al (c_dr hb5)
             have hb5' : Below wa.heap.size wa wq5 := hb5q
             have hK := HVr2.out.keep hb5'
             have HTr := Lib.hid (trn_five (w := w) (wr := wa) (p := ⟨k7, S7, ql7, nl7, cl7, qh7, nh7, ch7, qz7, nz7, cz7, d7⟩) hK hI hd (fun j hj => by have h1 := hn j hj; first | omega | (simp at h1; omega)) hb5' HB.out HG_gb.out HVr2.out.lt)
             obtain ⟨-, -, r90, r91, r92, r93, r94⟩ := hK.room
             dsimp only at r90 r91 r92 r93 r94
             have y0 := hK.room.frz 0
             have y1 := hK.room.frz 1
             have y2 := hK.room.frz 2
             have y3 := hK.room.frz 3
             have y4 := hK.room.frz 4
             clear hI hd hn hA hb5 hb5' hb5q hK))
        all_goals
          go_wp2_with fail
          go_meet
          exact ⟨_, _, _, _, _, _, _, _, _, _, _, _, HTr⟩
      case rest =>
      obtain ⟨k7, S7, ql7, nl7, cl7, qh7, nh7, ch7, qz7, nz7, cz7, d7, HTr⟩ := hcut
      rename World => wb
      have HVp3 := Lib.hid (HTr.out.vb HVp2.out HAB.out (fun j hj => (HRp2.out j hj).2))
      have HVr3 := Lib.hid HTr.out.v
      have HDr3 := Lib.hid (show PV.d ⟨k7, S7, ql7, nl7, cl7, qh7, nh7, ch7, qz7, nz7, cz7, d7⟩ = zV (putZ (putI nmL v (rotL kx m x)) Tj.data.toList 7) from HTr.out.e)
      have HRr3 := Lib.hid (fun j (hj : PV.at_ ⟨k7, S7, ql7, nl7, cl7, qh7, nh7, ch7, qz7, nz7, cz7, d7⟩ j) => (show j ≠ ga ∧ j ≠ gb from by have h1 := HTr.out.n j hj; have := HVp2.out.lt; have := HVr2.out.lt; omega))
      have HB3 := Lib.hid HTr.out.b
      have HU7 := Lib.hid (put_up Tj.data.toList 7 HUr.out)
      have HN7 := Lib.hid (put_in Tj.data.toList (n := 7) HNr.out (by unfold inI; decide))
      have HL7 := Lib.hid (show (putZ (putI nmL v (rotL kx m x)) Tj.data.toList 7).length ≤ 9 from by have := (put_le Tj.data.toList 7 HUr.out).2.1; have := HLr.out; omega)
      have HQ7 := Lib.hid (show putI nmL v (rotL kx m (x + 1)) = putZ (putZ (putI nmL v (rotL kx m x)) Tj.data.toList 7) Tj.data.toList (v jx) by rw [HQr.out, put_again HUr.out])
      clear HTr CD HVp2 HVr2 HDr HRr HB HLr HUr HNr HQr
      have HB := HB3
      clear HB3
      have HCy := Lib.hid (fun Y (hY : Below wb.heap.size wb Y) => HCj.out Y (HB.out.trans (hY.mono HB.out.size)))
      go_upto_region 14 with fail
      have CD := Lib.hid (fun (Y : World) (gq : Nat) (hB : Below w.heap.size w Y) (hpv : PV.In Y ⟨k7, S7, ql7, nl7, cl7, qh7, nh7, ch7, qz7, nz7, cz7, d7⟩) (hss : StrT.Ss Y (some ⟨gq, 0, none⟩) [(⟨#[122, 97, 100, 100]⟩ : ByteArray).data.toList, (⟨#[107]⟩ : ByteArray).data.toList, (F2 : ByteArray).data.toList, (Tj : ByteArray).data.toList]) => (show Calls Tryd.prog 11 #[.agg #[.int .u8 k7, .string S7, .slice ql7 nl7 cl7, .slice qh7 nh7 ch7, .slice qz7 nz7 cz7], .slice (some ⟨gq, 0, none⟩) 4 4] Y (DoN (zV (putZ (putZ (putI nmL v (rotL kx m x)) Tj.data.toList 7) Tj.data.toList (v jx))) ((rowD 0 (putZ (putI nmL v (rotL kx m x)) Tj.data.toList 7) [(F2 : ByteArray).data.toList, Tj.data.toList]).2) Y) from don_to (add_row2 _ _ _ _ HF2.out HVi2.out.1 HVi2.out.2) (onR 0 (by decide) ⟨k7, S7, ql7, nl7, cl7, qh7, nh7, ch7, qz7, nz7, cz7, d7⟩ (putZ (putI nmL v (rotL kx m x)) Tj.data.toList 7) ⟨#[122, 97, 100, 100]⟩ ⟨#[107]⟩ [(F2 : ByteArray).data.toList, (Tj : ByteArray).data.toList] (some ⟨gq, 0, none⟩) 4 4 Y hpv HDr3.out (HG.out Y hB) rfl (Nat.le_refl _) (by decide) hss (by decide) (by decide) ⟨HU7.out, HN7.out, by have := HL7.out; omega, Nat.le_refl 2, by show F2.data.toList.length ≤ _; rw [str_len]; omega⟩)))
      have hr0 : VB _ gb ⟨k7, S7, ql7, nl7, cl7, qh7, nh7, ch7, qz7, nz7, cz7, d7⟩ := HVr3.out
      obtain ⟨-, -, r00, r01, r02, r03, r04⟩ := hr0.room
      dsimp only at r00 r01 r02 r03 r04
      clear hr0
      have hl0 := HCy.out wb (Below.refl _ _)
      go_region_law (first
        | (go_simp; (with_reducible refine (CT2.out _).mono ?_); rintro e wq4 ⟨rfl, hb4⟩; dsimp only
           have hb4' : Below wb.heap.size wb wq4 := by first | exact hb4 | exact c_dr hb4
           have HW4 := Lib.hid hb4'
           have HB4 := Lib.hid (HB.out.trans (hb4'.mono HB.out.size))
           have K4 := Lib.hid (HVr3.out.keep hb4')
           have hr1 : VB _ gb ⟨k7, S7, ql7, nl7, cl7, qh7, nh7, ch7, qz7, nz7, cz7, d7⟩ := K4.out
           obtain ⟨-, -, r10, r11, r12, r13, r14⟩ := hr1.room
           dsimp only at r10 r11 r12 r13 r14
           clear hr1
           have hr2 : VB _ gb ⟨k7, S7, ql7, nl7, cl7, qh7, nh7, ch7, qz7, nz7, cz7, d7⟩ := K4.out.keep (Kit.below1 _ (.cells #[.string ⟨#[122, 97, 100, 100]⟩, .string ⟨#[107]⟩, .string F2, .string Tj] 9))
           obtain ⟨-, -, r20, r21, r22, r23, r24⟩ := hr2.room
           dsimp only at r20 r21 r22 r23 r24
           clear hr2
           clear hb4 hb4')
        | (go_simp; (with_reducible refine (CD.out _ _ (by first | exact HB4.out.trans ((Kit.below1 wq4 _).mono HB4.out.size) | exact (HB4.out.trans ((Kit.below1 wq4 _).mono HB4.out.size)).drew) (by first | exact (K4.out.keep (Kit.below1 _ _)).pv | exact (K4.out.keep (Kit.below1 _ _).drew).pv) (by first | exact ss4_at wq4 _ rfl ⟨#[122, 97, 100, 100]⟩ ⟨#[107]⟩ F2 Tj | exact ss4_at _ _ (by simp) ⟨#[122, 97, 100, 100]⟩ ⟨#[107]⟩ F2 Tj | exact StrT.Ss.keep (ss4_at wq4 _ rfl ⟨#[122, 97, 100, 100]⟩ ⟨#[107]⟩ F2 Tj) (Below.refl _ _).drew)).mono ?_); rintro e wq5 ⟨p9, vr, rfl, hI, hd, hn, hA, hb5⟩; dsimp only [PV.agg]
           obtain ⟨k8, S8, ql8, nl8, cl8, qh8, nh8, ch8, qz8, nz8, cz8, d8⟩ := p9
           dsimp only
           have hb5q : Below wq4.heap.size wq4 wq5 := by first | exact c_al hb5 | exact c_al (c_dr hb5)
           have hb5' : Below wb.heap.size wb wq5 := HW4.out.trans (hb5q.mono HW4.out.size)
           have hK := HVr3.out.keep hb5'
           have HTr := Lib.hid (trn_five (w := w) (wr := wb) (p := ⟨k8, S8, ql8, nl8, cl8, qh8, nh8, ch8, qz8, nz8, cz8, d8⟩) hK hI hd (fun j hj => by have h1 := hn j hj; have h2 := HW4.out.size; first | omega | (simp at h1; omega)) hb5' HB.out HG_gb.out HVr3.out.lt)
           obtain ⟨-, -, r90, r91, r92, r93, r94⟩ := hK.room
           dsimp only at r90 r91 r92 r93 r94
           have y0 := hK.room.frz 0
           have y1 := hK.room.frz 1
           have y2 := hK.room.frz 2
           have y3 := hK.room.frz 3
           have y4 := hK.room.frz 4
           clear hI hd hn hA hb5 hb5' hb5q hK))
      all_goals
        have HVp4 := Lib.hid (HTr.out.vb HVp3.out HAB.out (fun j hj => (HRp2.out j hj).2))
        have HVr4 := Lib.hid HTr.out.v
        have HDr4 := Lib.hid (show PV.d ⟨k8, S8, ql8, nl8, cl8, qh8, nh8, ch8, qz8, nz8, cz8, d8⟩ = zV (putI nmL v (rotL kx m (x + 1))) by rw [HQ7.out]; exact HTr.out.e)
        have HRr4 := Lib.hid (fun j (hj : PV.at_ ⟨k8, S8, ql8, nl8, cl8, qh8, nh8, ch8, qz8, nz8, cz8, d8⟩ j) => (show j ≠ ga ∧ j ≠ gb from by have h1 := HTr.out.n j hj; have := HVp3.out.lt; have := HVr3.out.lt; omega))
        have HB4 := Lib.hid HTr.out.b
        clear HTr HVp3 HVr3 HDr3 HRr3 HB HU7 HN7 HL7 HQ7 HCy HCj HF2 HVi2 HTj HSj sj HJ HJx hJb
        go_wp2_with fail
        go_roundw
        case rel => exact ⟨x + 1, ⟨k9, S9, ql9, nl9, cl9, qh9, nh9, ch9, qz9, nz9, cz9, d9⟩, ⟨k8, S8, ql8, nl8, cl8, qh8, nh8, ch8, qz8, nz8, cz8, d8⟩, by omega, by go_num, HDp2, HDr4, HVp4, HVr4, HRp2, HRr4, HB4⟩
        case measure => simp [intOf]; omega
    · obtain rfl : m = x := by omega
      have t1 : decide ((m : Int) < (m : Int)) = false := decide_eq_false (by omega)
      obtain ⟨k1, S1, ql1, nl1, cl1, qh1, nh1, ch1, qz1, nz1, cz1, d1⟩ := p
      obtain ⟨k2, S2, ql2, nl2, cl2, qh2, nh2, ch2, qz2, nz2, cz2, d2⟩ := r
      go_wp2_with fail
      exact HX.out _ _ _ _ _ _ _ _ _ _ _ _ _ _ _ _ _ _ _ _ _ _ _ _ _ _ _ _ _ _ _ _ _ _ _ _ _ _ _ _ _ _ _ _ _ _ _ _ _ _ _ _ _ _ _ _ _ _ ⟨k1, S1, ql1, nl1, cl1, qh1, nh1, ch1, qz1, nz1, cz1, d1⟩ ⟨k2, S2, ql2, nl2, cl2, qh2, nh2, ch2, qz2, nz2, cz2, d2⟩ HDp.out HDr.out HVp.out HVr.out HB.out

end Go.Proofs.YtodpocciimbjbaaDoor.sortedBack
