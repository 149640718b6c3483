/-
  SetsTurns: its loops: texts are put in, in two orders; and taken out again.
-/
import Derived.Test.YtmdkegamfjkfbaaDoorSetTurn
import Derived.Test.YtmdkegamfjkfbaaDoorRefVals
import Derived.Test.YtmdkegamfjkfbaaDoorStrRowz
import Derived.Deep.QuietTactic
import Derived.Deep.DeepCutAuto
import Derived.BigQuiet
import Derived.StillTailTactics
import Derived.Deep.RegionLaw
namespace Go.Proofs.YtmdkegamfjkfbaaDoor.setsTurns
open Go.RowKit Kit StrT RowG BOrd ValT StoT ReplyT ReplyMath ValM BytesIn DoT Low SetT NumL NumMath SetM SaidT RefR DoV LawK SetL RefV
set_option linter.unusedVariables false
set_option maxRecDepth 100000


noncomputable def body1 : Code := (((Tryd.f6.body.map loopsOf).getD []).getD 0 .skip)
noncomputable def body2 : Code := (((Tryd.f6.body.map loopsOf).getD []).getD 1 .skip)
theorem drewN_bw {B : Nat} {w wr : World} (h : Below B w wr) (k : Nat) : Below B w (wr.drewN k) := h.trans ⟨rfl, rfl, rfl, Nat.le_refl _, fun _ _ => rfl⟩

set_option maxHeartbeats 16000000 in
theorem loop1_any (w w10 : World) (q : Option Addr) (L : List (List UInt8)) (n c m an ga gb gr : Nat) (vl : Nat → List UInt8)
    (hHG : ∀ W, Below w.heap.size w W → Gt W) (hHB : Below w.heap.size w w10) (hL : L.length = n) (hcn : n ≤ c) (hcm : c ≤ 9223372036854775807) (hHS : StrT.Ss w q L) (hHZ : ∀ s ∈ L, s.length ≤ 140737488351232) (hmn : m ≤ n) (hm8 : m ≤ 10) (han : an ≤ 255) (hvl : vl = fun i => (wd L i).take 20)
    (hga : VB w10 ga pv0) (hgb : VB w10 gb pv0) (hab : ga ≠ gb) (hwa : w.heap.size ≤ ga) (hwb : w.heap.size ≤ gb) (hra : gr ≠ ga) (hrb : gr ≠ gb)
    {c2 c3 c4 c5 c11 c12 c13 c14 c15 c16 c17 c18 c19 c20 c21 c22 c23 c24 c25 c26 c27 c28 c29 c30 c31 c32 c33 c34 c35 c36 c37 c38 c39 c40 c41 c42 c43 c44 c45 c46 c47 c48 c49 c50 c51 c52 c53 c54 c55 c56 c57 c58 c59 c60 c61 c62 c63 c64 c65 c66 c67 c68 c69 c70 c71 c72 c73 c74 c75 c76 c77 c78 c79 c80 c81 c82 c83 c84 c85 c86 c87 c88 c89 c90 c91 c92 c93 c94 c95 c96 c97 c98 c99 c100 c101 c102 c103 c104 c105 c106 c107 c108 c109 c110 c111 c112 c113 c114 c115 c116 c117 c118 c119 c120 c121 c122 c123 c124 c125 c126 c127 c128 c129 c130 c131 c132 c133 c134 c135 c136 c137 c138 c139 c140 c141 c142 c143 c144 c145 : Value} (K0 : Act → World → Prop) (hexit : ∀ (v10 v11 v12 v27 v28 v29 v30 v31 v32 v33 v34 v35 v36 v37 v38 v39 v40 v41 v42 v43 v44 v45 v46 v47 v48 v49 v50 v51 v52 v53 v54 v55 v56 v57 v58 v59 v60 v61 v62 v63 v64 v65 v66 v67 v68 v69 v70 v71 v72 v73 v74 v75 v76 : Value) (w' : World) (qw : Option Addr) (nw cw : Nat) (p r : PV), nw = (putT vl (List.range m)).length → StrT.Ss w' qw (putT vl (List.range m)) → (∀ a, qw = some a → a.block ≠ ga ∧ a.block ≠ gb) → p.d = setV (putT vl (List.range m)) → r.d = setV (putT vl (rotL an m m)) → VB w' ga p → VB w' gb r → (∀ j, p.at_ j → j ≠ ga) → Below w.heap.size w w' → K0 ⟨List.toArray ((.slice q n c) :: (.int .u8 (an : Int)) :: (c2) :: (c3) :: (c4) :: (c5) :: (.int .i64 (m : Int)) :: (.pointer (some ⟨ga, 0, none⟩)) :: (.pointer (some ⟨gb, 0, none⟩)) :: (.slice qw nw cw) :: (v10) :: (v11) :: (v12) :: (c13) :: (c14) :: (c15) :: (c16) :: (c17) :: (c18) :: (c19) :: (c20) :: (c21) :: (c22) :: (c23) :: (c24) :: (c25) :: (c26) :: (v27) :: (v28) :: (v29) :: (v30) :: (v31) :: (v32) :: (v33) :: (v34) :: (v35) :: (v36) :: (v37) :: (v38) :: (v39) :: (v40) :: (v41) :: (v42) :: (v43) :: (v44) :: (v45) :: (v46) :: (v47) :: (v48) :: (v49) :: (v50) :: (v51) :: (v52) :: (v53) :: (v54) :: (v55) :: (v56) :: (v57) :: (v58) :: (v59) :: (v60) :: (v61) :: (v62) :: (v63) :: (v64) :: (v65) :: (v66) :: (v67) :: (v68) :: (v69) :: (v70) :: (v71) :: (v72) :: (v73) :: (v74) :: (v75) :: (v76) :: (c77) :: (c78) :: (c79) :: (c80) :: (c81) :: (c82) :: (c83) :: (c84) :: (c85) :: (c86) :: (c87) :: (c88) :: (c89) :: (c90) :: (c91) :: (c92) :: (c93) :: (c94) :: (c95) :: (c96) :: (c97) :: (c98) :: (c99) :: (c100) :: (c101) :: (c102) :: (c103) :: (c104) :: (c105) :: (c106) :: (c107) :: (c108) :: (c109) :: (c110) :: (c111) :: (c112) :: (c113) :: (c114) :: (c115) :: (c116) :: (c117) :: (c118) :: (c119) :: (c120) :: (c121) :: (c122) :: (c123) :: (c124) :: (c125) :: (c126) :: (c127) :: (c128) :: (c129) :: (c130) :: (c131) :: (c132) :: (c133) :: (c134) :: (c135) :: (c136) :: (c137) :: (c138) :: (c139) :: (c140) :: (c141) :: (c142) :: (c143) :: (c144) :: (c145) :: []), []⟩ w') :
    Code.wp Tryd.prog (Code.loop body1) (Exit.inBlock 0 (Exit.then K0 (bodyPost Tryd.prog Tryd.f6 (fun e w' => e = .returned (.bool true) ∧ Below w.heap.size w w')))) ⟨List.toArray ((.slice q n c) :: (.int .u8 (an : Int)) :: (c2) :: (c3) :: (c4) :: (c5) :: (.int .i64 (m : Int)) :: (.pointer (some ⟨ga, 0, none⟩)) :: (.pointer (some ⟨gb, 0, none⟩)) :: (.slice (some ⟨gr, 0, none⟩) 0 0) :: (.int .i64 0) :: (c11) :: (c12) :: (c13) :: (c14) :: (c15) :: (c16) :: (c17) :: (c18) :: (c19) :: (c20) :: (c21) :: (c22) :: (c23) :: (c24) :: (c25) :: (c26) :: (c27) :: (c28) :: (c29) :: (c30) :: (c31) :: (c32) :: (c33) :: (c34) :: (c35) :: (c36) :: (c37) :: (c38) :: (c39) :: (c40) :: (c41) :: (c42) :: (c43) :: (c44) :: (c45) :: (c46) :: (c47) :: (c48) :: (c49) :: (c50) :: (c51) :: (c52) :: (c53) :: (c54) :: (c55) :: (c56) :: (c57) :: (c58) :: (c59) :: (c60) :: (c61) :: (c62) :: (c63) :: (c64) :: (c65) :: (c66) :: (c67) :: (c68) :: (c69) :: (c70) :: (c71) :: (c72) :: (c73) :: (c74) :: (c75) :: (c76) :: (c77) :: (c78) :: (c79) :: (c80) :: (c81) :: (c82) :: (c83) :: (c84) :: (c85) :: (c86) :: (c87) :: (c88) :: (c89) :: (c90) :: (c91) :: (c92) :: (c93) :: (c94) :: (c95) :: (c96) :: (c97) :: (c98) :: (c99) :: (c100) :: (c101) :: (c102) :: (c103) :: (c104) :: (c105) :: (c106) :: (c107) :: (c108) :: (c109) :: (c110) :: (c111) :: (c112) :: (c113) :: (c114) :: (c115) :: (c116) :: (c117) :: (c118) :: (c119) :: (c120) :: (c121) :: (c122) :: (c123) :: (c124) :: (c125) :: (c126) :: (c127) :: (c128) :: (c129) :: (c130) :: (c131) :: (c132) :: (c133) :: (c134) :: (c135) :: (c136) :: (c137) :: (c138) :: (c139) :: (c140) :: (c141) :: (c142) :: (c143) :: (c144) :: (c145) :: []), []⟩ w10 := by
  have HX := Lib.hid hexit
  have HG := Lib.hid hHG
  have HB := Lib.hid hHB
  have HLn := Lib.hid hL
  have HS := Lib.hid hHS
  have HZ := Lib.hid hHZ
  have HVe := Lib.hid hvl
  have HA := Lib.hid hga
  have HBb := Lib.hid hgb
  have HAB := Lib.hid hab
  have HG_ga := Lib.hid hwa
  have HG_gb := Lib.hid hwb
  have HW0 := Lib.hid (show ∀ a : Addr, (some ⟨gr, 0, none⟩ : Option Addr) = some a → a.block ≠ ga ∧ a.block ≠ gb from fun a e => by injection e with e; subst e; exact ⟨hra, hrb⟩)
  clear hexit hHG hHB hL hHS hHZ hvl hga hgb hab hwa hwb hra hrb
  have HE0 := Lib.hid (show PV.d pv0 = setV (putT vl (List.range 0)) from rfl)
  have HF0 := Lib.hid (show PV.d pv0 = setV (putT vl (rotL an m 0)) from rfl)
  have HR0 := Lib.hid (show ∀ j, PV.at_ pv0 j → j ≠ ga ∧ j ≠ gb from fun j hj => absurd hj (pv0_at j))
  have HS0 := Lib.hid (show StrT.Ss w10 (some ⟨gr, 0, none⟩) (putT vl (List.range 0)) from fun h => absurd (show 0 < 0 from h) (Nat.lt_irrefl 0))
  have HL0 := Lib.hid (show 0 = (putT vl (List.range 0)).length from rfl)
  conv => arg 2; arg 1; whnf
  go_loopw [9, 10] (fun v i wr => ∃ (x : Nat) (qw : Option Addr) (nw cw : Nat) (p r : PV), x ≤ m ∧ i = .int .i64 (x : Int) ∧ v = .slice qw nw cw ∧ Hid (nw = (putT vl (List.range x)).length) ∧ Hid (StrT.Ss wr qw (putT vl (List.range x))) ∧ Hid (∀ a, qw = some a → a.block ≠ ga ∧ a.block ≠ gb) ∧ Hid (p.d = setV (putT vl (List.range x))) ∧ Hid (r.d = setV (putT vl (rotL an m x))) ∧ Hid (VB wr ga p) ∧ Hid (VB wr gb r) ∧ Hid (∀ j, p.at_ j → j ≠ ga ∧ j ≠ gb) ∧ Hid (∀ j, r.at_ j → j ≠ ga ∧ j ≠ gb) ∧ Hid (Below w.heap.size w wr)) (fun _ i _ => m - (intOf i).toNat)
  case atStart => exact ⟨0, _, 0, 0, pv0, pv0, Nat.zero_le _, rfl, rfl, HL0, HS0, HW0, HE0, HF0, HA, HBb, HR0, HR0, HB⟩
  case round =>
    clear HE0 HF0 HA HBb HR0 HS0 HL0 HW0 HB
    obtain ⟨x, qw, nw, cw, p, r, hx, rfl, rfl, HNw, HSw, HQw, HDp, HDr, HVp, HVr, HRp, HRr, HB⟩ := hrel
    by_cases hlt : x < m
    · have t1 : decide ((x : Int) < (m : Int)) = true := decide_eq_true (by omega)
      have z1 : ((m : Int) == 0) = false := by rw [beq_eq_false_iff_ne]; omega
      have z2 : ¬ (m : Int) = 0 := by omega
      obtain ⟨jx, hjx⟩ : ∃ jx : Nat, jx = (x + an) % m := ⟨_, rfl⟩
      have hjm : jx < m := by rw [hjx]; exact Nat.mod_lt _ (by omega)
      have HJ := Lib.hid (show ((x : Int) + (an : Int)) % (m : Int) = (jx : Int) by rw [hjx, Int.natCast_emod, Int.natCast_add])
      have HJx := Lib.hid hjx
      clear hjx
      obtain ⟨b, off, rfl, hbl, hcx⟩ := ss_word (HS.out.keep HB.out) x (by rw [HLn.out]; omega)
      obtain ⟨Tx, hT, hT2⟩ := str_of2 (wd L x)
      rw [hT2] at hcx
      have hTz : Tx.size ≤ 140737488351232 := by rw [← str_len, hT]; exact wd_le HZ.out x
      obtain ⟨Vx, hVx⟩ : ∃ Vx : ByteArray, Vx = if Tx.size ≤ 20 then Tx else Tx.extract 0 20 := ⟨_, rfl⟩
      have hVxz := cutN hVx
      obtain ⟨mx, hmx⟩ : ∃ mx : Nat, mx = min Tx.size 20 := ⟨_, rfl⟩
      have hminmx : min (Tx.size : Int) 20 = (mx : Int) := by omega
      have slVx : ∀ W, (Instr.slice 9 (.string Tx) none (some (.int .i64 (mx : Int))) none).run Tryd.prog W = .ok (.string Vx) W := fun W => by
        have h := run_slice_string_h (P := Tryd.prog) W 9 Tx Tryd.underlying9 .i64 (mx : Int) (by omega) (by omega)
        rw [h, hVx]
        split
        · rw [show ((mx : Nat) : Int).toNat = Tx.size by omega, ByteArray.extract_zero_size]
        · rw [show ((mx : Nat) : Int).toNat = 20 by omega]
      have HVx := Lib.hid (show Vx.data.toList = vl x by rw [HVe.out, cut20 hVx, hT])
      have HVxz := Lib.hid hVxz
      clear hVx hmx hVxz
      have hx0 : (0 : Int) ≤ (x : Int) := by omega
      have hxn : (x : Int) < (n : Int) := by omega
      have hj0 : (0 : Int) ≤ (jx : Int) := by omega
      have hjn : (jx : Int) < (n : Int) := by omega
      have HLp := Lib.hid (show (putT vl (List.range x)).length ≤ 10 from Nat.le_trans (put_len vl _) (by simp; omega))
      have HLr := Lib.hid (show (putT vl (rotL an m x)).length ≤ 10 from Nat.le_trans (put_len vl _) (by rw [rot_len]; omega))
      obtain ⟨k1, S1, ql1, nl1, cl1, qh1, nh1, ch1, qz1, nz1, cz1, d1⟩ := p
      obtain ⟨k2, S2, ql2, nl2, cl2, qh2, nh2, ch2, qz2, nz2, cz2, d2⟩ := r
      clear hbl hT hT2
      go_wp2_with fail
      go_quiet (fail)
      have HVp1 := Lib.hid (HVp.out.keep (drewN_bw (Below.refl _ _) nq))
      have HVr1 := Lib.hid (HVr.out.keep (drewN_bw (Below.refl _ _) nq))
      have HSw1 := Lib.hid (HSw.out.keep (drewN_bw (Below.refl _ _) nq))
      have HB1 := Lib.hid (drewN_bw HB.out nq)
      clear HVp HVr HSw HB hcx slVx hminmx
      generalize wr.drewN nq = w1 at HVp1 HVr1 HSw1 HB1 ⊢
      have HB := HB1
      have HVp := HVp1
      clear HB1 HVp1
      go_upto_region 11 with fail
      rw [HJ.out]
      have CA := Lib.hid (show Calls Tryd.prog 11 #[.agg #[.int .u8 k1, .string S1, .slice ql1 nl1 cl1, .slice qh1 nh1 ch1, .slice qz1 nz1 cz1], .slice (some ⟨w1.heap.size, 0, none⟩) 4 4] (w1.alloc (.cells #[.string ⟨#[115, 97, 100, 100]⟩, .string ⟨#[107]⟩, .string Vx, .string Vx] 9)) (DoN (setV (insS (putT vl (List.range x)) Vx.data.toList)) ((rowD 0 (putT vl (List.range x)) [Vx.data.toList, Vx.data.toList]).2) w1) from don_to (add_two (put_up vl _) _) (on4 0 (by decide) ⟨#[115, 97, 100, 100]⟩ ⟨#[107]⟩ Vx Vx (by decide) (by decide) (by decide) ⟨k1, S1, ql1, nl1, cl1, qh1, nh1, ch1, qz1, nz1, cz1, d1⟩ (putT vl (List.range x)) w1 _ (Below.refl _ _) HVp.out.pv HDp.out (HG.out w1 HB.out) (tame0 (put_up vl _) (by have := HLp.out; simp; omega))))
      obtain ⟨-, -, ra0, ra1, ra2, ra3, ra4⟩ := HVp.out.room
      dsimp only at ra0 ra1 ra2 ra3 ra4
      go_wp2_with fail
      clear ra0 ra1 ra2 ra3 ra4
      with_reducible refine CA.out.mono ?_
      rintro e wa ⟨p9, vr9, rfl, hI, hd, hn, hA, hb⟩
      obtain ⟨k9, S9, ql9, nl9, cl9, qh9, nh9, ch9, qz9, nz9, cz9, d9⟩ := p9
      dsimp only [PV.agg]
      have HK := Lib.hid (HVp.out.keep hb)
      have HTr := Lib.hid (trn_row (w := w) (wr := w1) (p := ⟨k9, S9, ql9, nl9, cl9, qh9, nh9, ch9, qz9, nz9, cz9, d9⟩) (HVp.out.keep hb) hI (show d9 = setV (putT vl (List.range (x + 1))) by rw [List.range_succ, put_snoc, ← HVx.out]; exact hd) hn hb HB.out HG_ga.out HVp.out.lt)
      have HCs := Lib.hid (show (Tryd.prog.info? 26).map (·.size) = some (#[.int .u8 k9, .string S9, .slice ql9 nl9 cl9, .slice qh9 nh9 ch9, .slice qz9 nz9 cz9] : Array Value).size from val_size)
      have HOn := Lib.hid (show (#[.int .u8 k9, .string S9, .slice ql9 nl9 cl9, .slice qh9 nh9 ch9, .slice qz9 nz9 cz9] : Array Value).all (·.oneCell') = true by simp [Value.oneCell'])
      dsimp only at HTr
      clear hI hd hn hA hb CA
      go_upto_region 12 with (with_reducible refine wpList_store_row rfl 26 (.tmp 7) (.tmp 55) rfl ga #[.int .u8 k9, .string S9, .slice ql9 nl9 cl9, .slice qh9 nh9 ch9, .slice qz9 nz9 cz9] rfl rfl 26 _ HK.out.hp HCs.out rfl HOn.out ?_)
      go_simp
      generalize wa.setRow ga #[.int .u8 k9, .string S9, .slice ql9 nl9 cl9, .slice qh9 nh9 ch9, .slice qz9 nz9 cz9] = wb at HTr ⊢
      have HVr2 := Lib.hid (HTr.out.vb HVr1.out (fun e => HAB.out e.symm) (fun j hj => (HRr.out j hj).1))
      have HVp2 := Lib.hid HTr.out.v
      have HDp2 := Lib.hid (show PV.d ⟨k9, S9, ql9, nl9, cl9, qh9, nh9, ch9, qz9, nz9, cz9, d9⟩ = setV (putT vl (List.range (x + 1))) from HTr.out.e)
      have HSw2 := Lib.hid (HTr.out.ss HSw1.out (fun a ha => (HQw.out a ha).1))
      have HRp2 := Lib.hid (fun j (hj : PV.at_ ⟨k9, S9, ql9, nl9, cl9, qh9, nh9, ch9, qz9, nz9, cz9, d9⟩ j) => (show j ≠ ga ∧ j ≠ gb from by have h1 := HTr.out.n j hj; have := HVp.out.lt; have := HVr1.out.lt; omega))
      have HB2 := Lib.hid HTr.out.b
      clear HTr HK HVp HVr1 HDp HSw1 HRp HB HLp
      have HB := HB2
      obtain ⟨b', off', eb, hbl, hcx⟩ := ss_word (HS.out.keep HB.out) jx (by rw [HLn.out]; omega)
      injection eb with eb
      injection eb with eb1 eb2
      subst eb1 eb2
      obtain ⟨Tj, hT, hT2⟩ := str_of2 (wd L jx)
      rw [hT2] at hcx
      have hTz : Tj.size ≤ 140737488351232 := by rw [← str_len, hT]; exact wd_le HZ.out jx
      obtain ⟨Vj, hVj⟩ : ∃ Vj : ByteArray, Vj = if Tj.size ≤ 20 then Tj else Tj.extract 0 20 := ⟨_, rfl⟩
      have hVjz := cutN hVj
      obtain ⟨mj, hmj⟩ : ∃ mj : Nat, mj = min Tj.size 20 := ⟨_, rfl⟩
      have hminmj : min (Tj.size : Int) 20 = (mj : Int) := by omega
      have slVj : ∀ W, (Instr.slice 9 (.string Tj) none (some (.int .i64 (mj : Int))) none).run Tryd.prog W = .ok (.string Vj) W := fun W => by
        have h := run_slice_string_h (P := Tryd.prog) W 9 Tj Tryd.underlying9 .i64 (mj : Int) (by omega) (by omega)
        rw [h, hVj]
        split
        · rw [show ((mj : Nat) : Int).toNat = Tj.size by omega, ByteArray.extract_zero_size]
        · rw [show ((mj : Nat) : Int).toNat = 20 by omega]
      have HVj := Lib.hid (show Vj.data.toList = vl jx by rw [HVe.out, cut20 hVj, hT])
      have HVjz := Lib.hid hVjz
      clear hVj hmj hVjz
      clear hbl hT hT2
      have CD := Lib.hid (fun (Y : World) (gq : Nat) (hB : Below w.heap.size w Y) (hpv : PV.In Y ⟨k2, S2, ql2, nl2, cl2, qh2, nh2, ch2, qz2, nz2, cz2, d2⟩) (hss : StrT.Ss Y (some ⟨gq, 0, none⟩) [(⟨#[83, 65, 68, 68]⟩ : ByteArray).data.toList, (⟨#[107]⟩ : ByteArray).data.toList, (Vj : ByteArray).data.toList]) => (show Calls Tryd.prog 11 #[.agg #[.int .u8 k2, .string S2, .slice ql2 nl2 cl2, .slice qh2 nh2 ch2, .slice qz2 nz2 cz2], .slice (some ⟨gq, 0, none⟩) 3 3] Y (DoN (setV (insS (putT vl (rotL an m x)) Vj.data.toList)) ((rowD 0 (putT vl (rotL an m x)) [Vj.data.toList]).2) Y) from don_to (add_one _ _) (onR 0 (by decide) ⟨k2, S2, ql2, nl2, cl2, qh2, nh2, ch2, qz2, nz2, cz2, d2⟩ (putT vl (rotL an m x)) ⟨#[83, 65, 68, 68]⟩ ⟨#[107]⟩ [(Vj : ByteArray).data.toList] (some ⟨gq, 0, none⟩) 3 3 Y hpv HDr.out (HG.out Y hB) rfl (Nat.le_refl _) (by decide) hss (by decide) (by decide) (tame0 (put_up vl _) (by have := HLr.out; simp; omega)))))
      go_cut [] (fun wx => ∃ (k7 : Int) (S7 : ByteArray) (ql7 : Option Addr) (nl7 cl7 : Nat) (qh7 : Option Addr) (nh7 ch7 : Nat) (qz7 : Option Addr) (nz7 cz7 : Nat) (d7 : V), Hid (Trn w wb wx gb ⟨k7, S7, ql7, nl7, cl7, qh7, nh7, ch7, qz7, nz7, cz7, d7⟩ (setV (insS (putT vl (rotL an m x)) Vj.data.toList))))
      case first =>
        have hr0 : VB _ gb ⟨k2, S2, ql2, nl2, cl2, qh2, nh2, ch2, qz2, nz2, cz2, d2⟩ := HVr2.out
        obtain ⟨-, -, r00, r01, r02, r03, r04⟩ := hr0.room
        dsimp only at r00 r01 r02 r03 r04
        clear hr0
        have hr1 : VB _ gb ⟨k2, S2, ql2, nl2, cl2, qh2, nh2, ch2, qz2, nz2, cz2, d2⟩ := HVr2.out.keep (Kit.below1 _ (.cells #[.string ⟨#[83, 65, 68, 68]⟩, .string ⟨#[107]⟩, .string Vj] 9))
        obtain ⟨-, -, r10, r11, r12, r13, r14⟩ := hr1.room
        dsimp only at r10 r11 r12 r13 r14
        clear hr1
        have hu0 := hcx
        have hb1 := Kit.below1 wb (.cells #[.string ⟨#[83, 65, 68, 68]⟩, .string ⟨#[107]⟩, .string Vj] 9)
        have HW1 := Lib.hid hb1
        clear hb1
        go_region_law (first
          | (go_simp; (with_reducible refine (CD.out _ _ (by first | exact HB.out.trans (HW1.out.mono HB.out.size) | exact (HB.out.trans (HW1.out.mono HB.out.size)).drew) (by first | exact (HVr2.out.keep HW1.out).pv | exact (HVr2.out.keep HW1.out.drew).pv) (by first | exact ss3_at wb _ rfl ⟨#[83, 65, 68, 68]⟩ ⟨#[107]⟩ Vj | exact ss3_at _ _ (by simp) ⟨#[83, 65, 68, 68]⟩ ⟨#[107]⟩ Vj | exact StrT.Ss.keep (ss3_at wb _ rfl ⟨#[83, 65, 68, 68]⟩ ⟨#[107]⟩ Vj) (Below.refl _ _).drew)).mono ?_); rintro e wq5 ⟨p9, vr, rfl, hI, hd, hn, hA, hb5⟩; dsimp only [PV.agg]
             obtain ⟨k7, S7, ql7, nl7, cl7, qh7, nh7, ch7, qz7, nz7, cz7, d7⟩ := p9
             dsimp only
             have hb5' : Below wb.heap.size wb wq5 := by first | exact c_al hb5 | exact c_al (c_dr hb5)
             have hK := HVr2.out.keep hb5'
             have HTr := Lib.hid (trn_five (w := w) (wr := wb) (p := ⟨k7, S7, ql7, nl7, cl7, qh7, nh7, ch7, qz7, nz7, cz7, d7⟩) hK hI hd (fun j hj => by have h1 := hn j hj; first | omega | (simp at h1; omega)) hb5' HB.out HG_gb.out HVr2.out.lt)
             obtain ⟨-, -, r50, r51, r52, r53, r54⟩ := hK.room
             dsimp only at r50 r51 r52 r53 r54
             have y0 := hK.room.frz 0
             have y1 := hK.room.frz 1
             have y2 := hK.room.frz 2
             have y3 := hK.room.frz 3
             have y4 := hK.room.frz 4
             clear hI hd hn hA hb5 hb5' hK))
        all_goals
          go_wp2_with fail
          go_meet
          exact ⟨_, _, _, _, _, _, _, _, _, _, _, _, HTr⟩
      case rest =>
      obtain ⟨k7, S7, ql7, nl7, cl7, qh7, nh7, ch7, qz7, nz7, cz7, d7, HTr⟩ := hcut
      rename World => wc
      have HVp3 := Lib.hid (HTr.out.vb HVp2.out HAB.out (fun j hj => (HRp2.out j hj).2))
      have HVr3 := Lib.hid HTr.out.v
      have HDr3 := Lib.hid (show PV.d ⟨k7, S7, ql7, nl7, cl7, qh7, nh7, ch7, qz7, nz7, cz7, d7⟩ = setV (putT vl (rotL an m (x + 1))) by rw [rot_snoc, put_snoc, ← HJx.out, ← HVj.out]; exact HTr.out.e)
      have HSw3 := Lib.hid (HTr.out.ss HSw2.out (fun a ha => (HQw.out a ha).2))
      have HRr3 := Lib.hid (fun j (hj : PV.at_ ⟨k7, S7, ql7, nl7, cl7, qh7, nh7, ch7, qz7, nz7, cz7, d7⟩ j) => (show j ≠ ga ∧ j ≠ gb from by have h1 := HTr.out.n j hj; have := HVp2.out.lt; have := HVr2.out.lt; omega))
      have HB3 := Lib.hid HTr.out.b
      have hga3 := HVp3.out.lt
      have hgb3 := HVr3.out.lt
      have CP := Lib.hid (rput qw (putT vl (List.range x)) nw cw Vx Vx.data.toList wc HNw.out.symm HSw3.out (by rw [HNw.out]; exact Nat.le_trans (put_len vl _) (by simp; omega)) rfl)
      rw [putL_ins _ (put_up vl _)] at CP
      have HEq := Lib.hid (show insS (putT vl (List.range x)) Vx.data.toList = putT vl (List.range (x + 1)) by rw [List.range_succ, put_snoc, ← HVx.out])
      rw [HEq.out] at CP
      have HGg := Lib.hid (show ga < wc.heap.size ∧ gb < wc.heap.size from ⟨hga3, hgb3⟩)
      clear HTr CD HVp2 HVr2 HDr HSw2 HSw3 HB HB2 HRr hcx slVj hminmj HLr HEq HNw HQw hga3 hgb3 HVx HVj HJx HJ
      go_upto_region 13 with fail
      go_wp2_with fail
      with_reducible refine CP.out.mono ?_
      rintro e wd ⟨v, rfl, hA, hb⟩
      obtain ⟨q', c', rfl, hR, hge, -, -, -⟩ := hA
      have HVp4 := Lib.hid (HVp3.out.keep hb)
      have HVr4 := Lib.hid (HVr3.out.keep hb)
      have HS4 := Lib.hid (rs_ss.1 hR)
      have HQ4 := Lib.hid (show ∀ a, q' = some a → a.block ≠ ga ∧ a.block ≠ gb from fun a ha => by have := hge a ha; have := HGg.out; omega)
      have HB4 := Lib.hid (HB3.out.trans (hb.mono HB3.out.size))
      obtain ⟨nq, hnq⟩ : ∃ nq, nq = (putT vl (List.range (x + 1))).length := ⟨_, rfl⟩
      rw [← hnq]
      have HN4 := Lib.hid hnq
      clear hR hge hb CP HVp3 HVr3 HB3 HGg hnq
      go_wp2_with fail
      go_roundw
      case rel => exact ⟨x + 1, q', nq, c', ⟨k9, S9, ql9, nl9, cl9, qh9, nh9, ch9, qz9, nz9, cz9, d9⟩, ⟨k7, S7, ql7, nl7, cl7, qh7, nh7, ch7, qz7, nz7, cz7, d7⟩, by omega, by go_num, rfl, HN4, HS4, HQ4, HDp2, HDr3, HVp4, HVr4, HRp2, HRr3, HB4⟩
      case measure => simp [intOf]; omega
    · obtain rfl : m = x := by omega
      have t1 : decide ((m : Int) < (m : Int)) = false := decide_eq_false (by omega)
      obtain ⟨k1, S1, ql1, nl1, cl1, qh1, nh1, ch1, qz1, nz1, cz1, d1⟩ := p
      obtain ⟨k2, S2, ql2, nl2, cl2, qh2, nh2, ch2, qz2, nz2, cz2, d2⟩ := r
      go_wp2_with fail
      exact HX.out _ _ _ _ _ _ _ _ _ _ _ _ _ _ _ _ _ _ _ _ _ _ _ _ _ _ _ _ _ _ _ _ _ _ _ _ _ _ _ _ _ _ _ _ _ _ _ _ _ _ _ _ _ _ qw nw cw ⟨k1, S1, ql1, nl1, cl1, qh1, nh1, ch1, qz1, nz1, cz1, d1⟩ ⟨k2, S2, ql2, nl2, cl2, qh2, nh2, ch2, qz2, nz2, cz2, d2⟩ HNw.out HSw.out HQw.out HDp.out HDr.out HVp.out HVr.out (fun j hj => (HRp.out j hj).1) HB.out

set_option maxHeartbeats 16000000 in
theorem loop2_any (w w10 : World) (q : Option Addr) (L : List (List UInt8)) (n c m an ga : Nat) (vl : Nat → List UInt8)
    (hHG : ∀ W, Below w.heap.size w W → Gt W) (hHB : Below w.heap.size w w10) (hL : L.length = n) (hcn : n ≤ c) (hcm : c ≤ 9223372036854775807) (hHS : StrT.Ss w q L) (hHZ : ∀ s ∈ L, s.length ≤ 140737488351232) (hmn : m ≤ n) (hm8 : m ≤ 10) (han : an ≤ 255) (hvl : vl = fun i => (wd L i).take 20)
    (p0 : PV) (hp0 : p0.d = setV (putT vl (List.range m))) (hga : VB w10 ga p0) (hpa : ∀ j, p0.at_ j → j ≠ ga) (hwa : w.heap.size ≤ ga)
    {c2 c3 c4 c5 c8 c9 c10 c11 c12 c13 c14 c15 c16 c17 c19 c20 c21 c22 c23 c24 c25 c26 c27 c28 c29 c30 c31 c32 c33 c34 c35 c36 c37 c38 c39 c40 c41 c42 c43 c44 c45 c46 c47 c48 c49 c50 c51 c52 c53 c54 c55 c56 c57 c58 c59 c60 c61 c62 c63 c64 c65 c66 c67 c68 c69 c70 c71 c72 c73 c74 c75 c76 c77 c78 c79 c80 c81 c82 c83 c84 c85 c86 c87 c88 c89 c90 c91 c92 c93 c94 c95 c96 c97 c98 c99 c100 c101 c102 c103 c104 c105 c106 c107 c108 c109 c110 c111 c112 c113 c114 c115 c116 c117 c118 c119 c120 c121 c122 c123 c124 c125 c126 c127 c128 c129 c130 c131 c132 c133 c134 c135 c136 c137 c138 c139 c140 c141 c142 c143 c144 c145 : Value} (K0 : Act → World → Prop) (hexit : ∀ (v18 v19 v92 v93 v94 v95 v96 v97 v98 v99 v100 v101 v102 v103 v104 v105 v106 v107 v108 v109 v110 v111 v112 v113 v114 v115 v116 v117 v118 v119 : Value) (w' : World) (p : PV), p.d = v0 → VB w' ga p → (∀ j, j < w10.heap.size → j ≠ ga → w'.heap[j]? = w10.heap[j]?) → w10.heap.size ≤ w'.heap.size → Below w.heap.size w w' → K0 ⟨List.toArray ((.slice q n c) :: (.int .u8 (an : Int)) :: (c2) :: (c3) :: (c4) :: (c5) :: (.int .i64 (m : Int)) :: (.pointer (some ⟨ga, 0, none⟩)) :: (c8) :: (c9) :: (c10) :: (c11) :: (c12) :: (c13) :: (c14) :: (c15) :: (c16) :: (c17) :: (v18) :: (v19) :: (c20) :: (c21) :: (c22) :: (c23) :: (c24) :: (c25) :: (c26) :: (c27) :: (c28) :: (c29) :: (c30) :: (c31) :: (c32) :: (c33) :: (c34) :: (c35) :: (c36) :: (c37) :: (c38) :: (c39) :: (c40) :: (c41) :: (c42) :: (c43) :: (c44) :: (c45) :: (c46) :: (c47) :: (c48) :: (c49) :: (c50) :: (c51) :: (c52) :: (c53) :: (c54) :: (c55) :: (c56) :: (c57) :: (c58) :: (c59) :: (c60) :: (c61) :: (c62) :: (c63) :: (c64) :: (c65) :: (c66) :: (c67) :: (c68) :: (c69) :: (c70) :: (c71) :: (c72) :: (c73) :: (c74) :: (c75) :: (c76) :: (c77) :: (c78) :: (c79) :: (c80) :: (c81) :: (c82) :: (c83) :: (c84) :: (c85) :: (c86) :: (c87) :: (c88) :: (c89) :: (c90) :: (c91) :: (v92) :: (v93) :: (v94) :: (v95) :: (v96) :: (v97) :: (v98) :: (v99) :: (v100) :: (v101) :: (v102) :: (v103) :: (v104) :: (v105) :: (v106) :: (v107) :: (v108) :: (v109) :: (v110) :: (v111) :: (v112) :: (v113) :: (v114) :: (v115) :: (v116) :: (v117) :: (v118) :: (v119) :: (c120) :: (c121) :: (c122) :: (c123) :: (c124) :: (c125) :: (c126) :: (c127) :: (c128) :: (c129) :: (c130) :: (c131) :: (c132) :: (c133) :: (c134) :: (c135) :: (c136) :: (c137) :: (c138) :: (c139) :: (c140) :: (c141) :: (c142) :: (c143) :: (c144) :: (c145) :: []), []⟩ w') :
    Code.wp Tryd.prog (Code.loop body2) (Exit.inBlock 2 (Exit.then K0 (bodyPost Tryd.prog Tryd.f6 (fun e w' => e = .returned (.bool true) ∧ Below w.heap.size w w')))) ⟨List.toArray ((.slice q n c) :: (.int .u8 (an : Int)) :: (c2) :: (c3) :: (c4) :: (c5) :: (.int .i64 (m : Int)) :: (.pointer (some ⟨ga, 0, none⟩)) :: (c8) :: (c9) :: (c10) :: (c11) :: (c12) :: (c13) :: (c14) :: (c15) :: (c16) :: (c17) :: (.int .i64 0) :: (c19) :: (c20) :: (c21) :: (c22) :: (c23) :: (c24) :: (c25) :: (c26) :: (c27) :: (c28) :: (c29) :: (c30) :: (c31) :: (c32) :: (c33) :: (c34) :: (c35) :: (c36) :: (c37) :: (c38) :: (c39) :: (c40) :: (c41) :: (c42) :: (c43) :: (c44) :: (c45) :: (c46) :: (c47) :: (c48) :: (c49) :: (c50) :: (c51) :: (c52) :: (c53) :: (c54) :: (c55) :: (c56) :: (c57) :: (c58) :: (c59) :: (c60) :: (c61) :: (c62) :: (c63) :: (c64) :: (c65) :: (c66) :: (c67) :: (c68) :: (c69) :: (c70) :: (c71) :: (c72) :: (c73) :: (c74) :: (c75) :: (c76) :: (c77) :: (c78) :: (c79) :: (c80) :: (c81) :: (c82) :: (c83) :: (c84) :: (c85) :: (c86) :: (c87) :: (c88) :: (c89) :: (c90) :: (c91) :: (c92) :: (c93) :: (c94) :: (c95) :: (c96) :: (c97) :: (c98) :: (c99) :: (c100) :: (c101) :: (c102) :: (c103) :: (c104) :: (c105) :: (c106) :: (c107) :: (c108) :: (c109) :: (c110) :: (c111) :: (c112) :: (c113) :: (c114) :: (c115) :: (c116) :: (c117) :: (c118) :: (c119) :: (c120) :: (c121) :: (c122) :: (c123) :: (c124) :: (c125) :: (c126) :: (c127) :: (c128) :: (c129) :: (c130) :: (c131) :: (c132) :: (c133) :: (c134) :: (c135) :: (c136) :: (c137) :: (c138) :: (c139) :: (c140) :: (c141) :: (c142) :: (c143) :: (c144) :: (c145) :: []), []⟩ w10 := by
  have HX := Lib.hid hexit
  have HG := Lib.hid hHG
  have HB := Lib.hid hHB
  have HLn := Lib.hid hL
  have HS := Lib.hid hHS
  have HZ := Lib.hid hHZ
  have HVe := Lib.hid hvl
  have HA := Lib.hid hga
  have HG_ga := Lib.hid hwa
  have HR0 := Lib.hid hpa
  have HE0 := Lib.hid (show p0.d = setV (outT vl (putT vl (List.range m)) (rotL an m 0)) by rw [hp0]; exact congrArg setV (out_nil vl _).symm)
  have HO0 := Lib.hid (fun j (_ : j < w10.heap.size) (_ : j ≠ ga) => (rfl : w10.heap[j]? = w10.heap[j]?))
  have HZ0 := Lib.hid (Nat.le_refl w10.heap.size)
  clear hexit hHG hHB hL hHS hHZ hvl hga hwa hpa hp0
  conv => arg 2; arg 1; whnf
  go_loopw [18] (fun i wr => ∃ (x : Nat) (p : PV), x ≤ m ∧ i = .int .i64 (x : Int) ∧ Hid (p.d = setV (outT vl (putT vl (List.range m)) (rotL an m x))) ∧ Hid (VB wr ga p) ∧ Hid (∀ j, p.at_ j → j ≠ ga) ∧ Hid (∀ j, j < w10.heap.size → j ≠ ga → wr.heap[j]? = w10.heap[j]?) ∧ Hid (w10.heap.size ≤ wr.heap.size) ∧ Hid (Below w.heap.size w wr)) (fun i _ => m - (intOf i).toNat)
  case atStart => exact ⟨0, p0, Nat.zero_le _, rfl, HE0, HA, HR0, HO0, HZ0, HB⟩
  case round =>
    clear HE0 HA HR0 HO0 HZ0 HB
    obtain ⟨x, p, hx, rfl, HDp, HVp, HRp, HO, HSz, HB⟩ := hrel
    by_cases hlt : x < m
    · have t1 : decide ((x : Int) < (m : Int)) = true := decide_eq_true (by omega)
      have z1 : ((m : Int) == 0) = false := by rw [beq_eq_false_iff_ne]; omega
      have z2 : ¬ (m : Int) = 0 := by omega
      obtain ⟨jx, hjx⟩ : ∃ jx : Nat, jx = (x + an) % m := ⟨_, rfl⟩
      have hjm : jx < m := by rw [hjx]; exact Nat.mod_lt _ (by omega)
      have HJ := Lib.hid (show ((x : Int) + (an : Int)) % (m : Int) = (jx : Int) by rw [hjx, Int.natCast_emod, Int.natCast_add])
      have HJx := Lib.hid hjx
      clear hjx
      obtain ⟨b, off, rfl, hbl, hcx⟩ := ss_word (HS.out.keep HB.out) jx (by rw [HLn.out]; omega)
      obtain ⟨Tj, hT, hT2⟩ := str_of2 (wd L jx)
      rw [hT2] at hcx
      have hTz : Tj.size ≤ 140737488351232 := by rw [← str_len, hT]; exact wd_le HZ.out jx
      obtain ⟨Vj, hVj⟩ : ∃ Vj : ByteArray, Vj = if Tj.size ≤ 20 then Tj else Tj.extract 0 20 := ⟨_, rfl⟩
      have hVjz := cutN hVj
      obtain ⟨mj, hmj⟩ : ∃ mj : Nat, mj = min Tj.size 20 := ⟨_, rfl⟩
      have hminmj : min (Tj.size : Int) 20 = (mj : Int) := by omega
      have slVj : ∀ W, (Instr.slice 9 (.string Tj) none (some (.int .i64 (mj : Int))) none).run Tryd.prog W = .ok (.string Vj) W := fun W => by
        have h := run_slice_string_h (P := Tryd.prog) W 9 Tj Tryd.underlying9 .i64 (mj : Int) (by omega) (by omega)
        rw [h, hVj]
        split
        · rw [show ((mj : Nat) : Int).toNat = Tj.size by omega, ByteArray.extract_zero_size]
        · rw [show ((mj : Nat) : Int).toNat = 20 by omega]
      have HVj := Lib.hid (show Vj.data.toList = vl jx by rw [HVe.out, cut20 hVj, hT])
      have HVjz := Lib.hid hVjz
      clear hVj hmj hVjz
      have hj0 : (0 : Int) ≤ (jx : Int) := by omega
      have hjn : (jx : Int) < (n : Int) := by omega
      have HUp := Lib.hid (show rises (outT vl (putT vl (List.range m)) (rotL an m x)) from rem_up _ (put_up vl _))
      obtain ⟨k1, S1, ql1, nl1, cl1, qh1, nh1, ch1, qz1, nz1, cz1, d1⟩ := p
      clear hbl hT hT2
      go_upto_region 21 with fail
      rw [HJ.out]
      have CD := Lib.hid (fun (Y : World) (gq : Nat) (hB : Below w.heap.size w Y) (hpv : PV.In Y ⟨k1, S1, ql1, nl1, cl1, qh1, nh1, ch1, qz1, nz1, cz1, d1⟩) (hss : StrT.Ss Y (some ⟨gq, 0, none⟩) [(⟨#[115, 114, 101, 109]⟩ : ByteArray).data.toList, (⟨#[107]⟩ : ByteArray).data.toList, (Vj : ByteArray).data.toList]) => (show Calls Tryd.prog 11 #[.agg #[.int .u8 k1, .string S1, .slice ql1 nl1 cl1, .slice qh1 nh1 ch1, .slice qz1 nz1 cz1], .slice (some ⟨gq, 0, none⟩) 3 3] Y (DoN (setV (remS (outT vl (putT vl (List.range m)) (rotL an m x)) [Vj.data.toList])) ((rowD 1 (outT vl (putT vl (List.range m)) (rotL an m x)) [Vj.data.toList]).2) Y) from don_to (rem_row _ _) (onR 1 (by decide) ⟨k1, S1, ql1, nl1, cl1, qh1, nh1, ch1, qz1, nz1, cz1, d1⟩ (outT vl (putT vl (List.range m)) (rotL an m x)) ⟨#[115, 114, 101, 109]⟩ ⟨#[107]⟩ [(Vj : ByteArray).data.toList] (some ⟨gq, 0, none⟩) 3 3 Y hpv HDp.out (HG.out Y hB) rfl (Nat.le_refl _) (by decide) hss (by decide) (by decide) (tame1 HUp.out (by simp)))))
      have hr0 : VB _ ga ⟨k1, S1, ql1, nl1, cl1, qh1, nh1, ch1, qz1, nz1, cz1, d1⟩ := HVp.out
      obtain ⟨-, -, r00, r01, r02, r03, r04⟩ := hr0.room
      dsimp only at r00 r01 r02 r03 r04
      clear hr0
      have hr1 : VB _ ga ⟨k1, S1, ql1, nl1, cl1, qh1, nh1, ch1, qz1, nz1, cz1, d1⟩ := HVp.out.keep (Kit.below1 _ (.cells #[.string ⟨#[115, 114, 101, 109]⟩, .string ⟨#[107]⟩, .string Vj] 9))
      obtain ⟨-, -, r10, r11, r12, r13, r14⟩ := hr1.room
      dsimp only at r10 r11 r12 r13 r14
      clear hr1
      have hu0 := hcx
      have hb1 := Kit.below1 wr (.cells #[.string ⟨#[115, 114, 101, 109]⟩, .string ⟨#[107]⟩, .string Vj] 9)
      have HW1 := Lib.hid hb1
      clear hb1
      go_region_law (first
        | (go_simp; (with_reducible refine (CD.out _ _ (by first | exact HB.out.trans (HW1.out.mono HB.out.size) | exact (HB.out.trans (HW1.out.mono HB.out.size)).drew) (by first | exact (HVp.out.keep HW1.out).pv | exact (HVp.out.keep HW1.out.drew).pv) (by first | exact ss3_at wr _ rfl ⟨#[115, 114, 101, 109]⟩ ⟨#[107]⟩ Vj | exact ss3_at _ _ (by simp) ⟨#[115, 114, 101, 109]⟩ ⟨#[107]⟩ Vj | exact StrT.Ss.keep (ss3_at wr _ rfl ⟨#[115, 114, 101, 109]⟩ ⟨#[107]⟩ Vj) (Below.refl _ _).drew)).mono ?_); rintro e wq5 ⟨p9, vr, rfl, hI, hd, hn, hA, hb5⟩; dsimp only [PV.agg]
           obtain ⟨k9, S9, ql9, nl9, cl9, qh9, nh9, ch9, qz9, nz9, cz9, d9⟩ := p9
           dsimp only
           have hb5' : Below wr.heap.size wr wq5 := by first | exact c_al hb5 | exact c_al (c_dr hb5)
           have hK := HVp.out.keep hb5'
           have HTr := Lib.hid (trn_five (w := w) (wr := wr) (p := ⟨k9, S9, ql9, nl9, cl9, qh9, nh9, ch9, qz9, nz9, cz9, d9⟩) hK hI hd (fun j hj => by have h1 := hn j hj; first | omega | (simp at h1; omega)) hb5' HB.out HG_ga.out HVp.out.lt)
           obtain ⟨-, -, r50, r51, r52, r53, r54⟩ := hK.room
           dsimp only at r50 r51 r52 r53 r54
           have y0 := hK.room.frz 0
           have y1 := hK.room.frz 1
           have y2 := hK.room.frz 2
           have y3 := hK.room.frz 3
           have y4 := hK.room.frz 4
           clear hI hd hn hA hb5 hb5' hK))
      all_goals
        have HVp2 := Lib.hid HTr.out.v
        have HDp2 := Lib.hid (show PV.d ⟨k9, S9, ql9, nl9, cl9, qh9, nh9, ch9, qz9, nz9, cz9, d9⟩ = setV (outT vl (putT vl (List.range m)) (rotL an m (x + 1))) by rw [rot_snoc, out_snoc, ← HJx.out, ← HVj.out]; exact HTr.out.e)
        have HRp2 := Lib.hid (fun j (hj : PV.at_ ⟨k9, S9, ql9, nl9, cl9, qh9, nh9, ch9, qz9, nz9, cz9, d9⟩ j) => (show j ≠ ga from by have h1 := HTr.out.n j hj; have := HVp.out.lt; omega))
        have HO2 := Lib.hid (fun j (h1 : j < w10.heap.size) (h2 : j ≠ ga) => (HTr.out.o j (Nat.lt_of_lt_of_le h1 HSz.out) h2).trans (HO.out j h1 h2))
        have HS2 := Lib.hid (Nat.le_trans HSz.out HTr.out.s)
        have HB2 := Lib.hid HTr.out.b
        clear HTr CD HVp HDp HRp HO HSz HB slVj hminmj HVj HJx HJ HUp
        go_wp2_with fail
        go_roundw
        case rel => exact ⟨x + 1, ⟨k9, S9, ql9, nl9, cl9, qh9, nh9, ch9, qz9, nz9, cz9, d9⟩, by omega, by go_num, HDp2, HVp2, HRp2, HO2, HS2, HB2⟩
        case measure => simp [intOf]; omega
    · obtain rfl : m = x := by omega
      have t1 : decide ((m : Int) < (m : Int)) = false := decide_eq_false (by omega)
      obtain ⟨k1, S1, ql1, nl1, cl1, qh1, nh1, ch1, qz1, nz1, cz1, d1⟩ := p
      have HD0 := Lib.hid (show PV.d ⟨k1, S1, ql1, nl1, cl1, qh1, nh1, ch1, qz1, nz1, cz1, d1⟩ = v0 from HDp.out.trans (by rw [out_all]; rfl))
      go_wp2_with fail
      exact HX.out _ _ _ _ _ _ _ _ _ _ _ _ _ _ _ _ _ _ _ _ _ _ _ _ _ _ _ _ _ _ _ ⟨k1, S1, ql1, nl1, cl1, qh1, nh1, ch1, qz1, nz1, cz1, d1⟩ HD0.out HVp.out HO.out HSz.out HB.out

end Go.Proofs.YtmdkegamfjkfbaaDoor.setsTurns
