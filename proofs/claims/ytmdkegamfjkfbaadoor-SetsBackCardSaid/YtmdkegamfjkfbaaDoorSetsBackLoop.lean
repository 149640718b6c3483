/-
  SetsBack: its loops: texts are cut and kept; they are put in, in two orders; each of them is there.
-/
import Derived.Test.YtmdkegamfjkfbaaDoorSetTurn
import Derived.Test.YtmdkegamfjkfbaaDoorRefVals
import Derived.Test.YtmdkegamfjkfbaaDoorStrRowz
import Derived.Deep.QuietTactic
import Derived.Deep.DeepCutAuto
import Derived.BigQuiet
import Derived.StillTailTactics
import Derived.Deep.RegionLaw
namespace Go.Proofs.YtmdkegamfjkfbaaDoor.setsBack
open Go.RowKit Kit StrT RowG BOrd ValT StoT ReplyT ReplyMath ValM BytesIn DoT Low SetT NumL NumMath SetM SaidT RefR DoV LawK SetL RefV
set_option linter.unusedVariables false
set_option maxRecDepth 100000


noncomputable def body1 : Code := (((Tryd.f4.body.map loopsOf).getD []).getD 0 .skip)
noncomputable def body2 : Code := (((Tryd.f4.body.map loopsOf).getD []).getD 1 .skip)
noncomputable def body3 : Code := (((Tryd.f4.body.map loopsOf).getD []).getD 2 .skip)
def pairL (k m : Nat) : Nat → List Nat
  | 0 => []
  | x + 1 => pairL k m x ++ [(x + k) % m] ++ [x]
theorem pair_len (k m : Nat) : ∀ x, (pairL k m x).length = 2 * x
  | 0 => rfl
  | x + 1 => by
    have := pair_len k m x
    simp only [pairL, List.length_append, List.length_cons, List.length_nil]
    omega
theorem pair_lt (k m : Nat) (hm : 0 < m) : ∀ x, x ≤ m → ∀ i ∈ pairL k m x, i < m
  | 0, _, i, h => by cases h
  | x + 1, hx, i, h => by
    simp only [pairL, List.mem_append, List.mem_singleton] at h
    rcases h with (h | rfl) | rfl
    · exact pair_lt k m hm x (by omega) i h
    · exact Nat.mod_lt _ hm
    · omega
theorem pair_in (k m : Nat) : ∀ x i, i < x → i ∈ pairL k m x
  | 0, i, h => by omega
  | x + 1, i, h => by
    simp only [pairL, List.mem_append, List.mem_singleton]
    by_cases e : i = x
    · exact Or.inr e
    · exact Or.inl (Or.inl (pair_in k m x i (by omega)))
theorem pair_put (vl : Nat → List UInt8) (k m : Nat) : putT vl (pairL k m m) = putT vl (List.range m) := by
  rcases Nat.eq_zero_or_pos m with h0 | h0
  · subst h0
    rfl
  · refine put_same vl _ _ fun i => ?_
    rw [List.mem_range]
    exact ⟨pair_lt k m h0 m (Nat.le_refl _) i, pair_in k m m i⟩
theorem add_both (L : List (List UInt8)) (s t : List UInt8) : rowD 0 L [s, t] = (insS (insS L s) t, (rowD 0 L [s, t]).2) := rfl
theorem range_vl (vl : Nat → List UInt8) (x : Nat) : (List.range (x + 1)).map vl = (List.range x).map vl ++ [vl x] := by
  rw [List.range_succ, List.map_append]
  rfl
theorem wd_vl (vl : Nat → List UInt8) {m j : Nat} (h : j < m) : wd ((List.range m).map vl) j = vl j := by
  rw [LawK.wd_at (by simpa using h)]
  simp

set_option maxHeartbeats 16000000 in
theorem loop1_any (w w10 : World) (q : Option Addr) (L : List (List UInt8)) (n c m gr : Nat) (vl : Nat → List UInt8)
    (hHB : Below w.heap.size w w10) (hL : L.length = n) (hcn : n ≤ c) (hcm : c ≤ 9223372036854775807) (hHS : StrT.Ss w q L) (hHZ : ∀ s ∈ L, s.length ≤ 140737488351232) (hm : m = min n 10) (hvl : vl = fun i => (wd L i).take 20)
    (hO : OwnR strE w.heap.size w10 (.slice (some ⟨gr, 0, none⟩) 0 0) [])
    {c1 c2 c3 c4 c5 c6 c7 c10 c11 c12 c13 c14 c15 c16 c17 c18 c19 c20 c21 c22 c23 c24 c25 c26 c27 c28 c29 c30 c31 c32 c33 c34 c35 c36 c37 c38 c39 c40 c41 c42 c43 c44 c45 c46 c47 c48 c49 c50 c51 c52 c53 c54 c55 c56 c57 c58 c59 c60 c61 c62 c63 c64 c65 c66 c67 c68 c69 c70 c71 c72 c73 c74 c75 c76 c77 c78 c79 c80 c81 c82 c83 c84 c85 c86 c87 c88 c89 c90 c91 c92 c93 c94 c95 c96 c97 c98 c99 c100 c101 c102 c103 c104 c105 c106 c107 c108 c109 c110 c111 c112 c113 c114 c115 c116 c117 c118 c119 c120 c121 c122 c123 c124 c125 c126 c127 c128 c129 c130 c131 c132 c133 c134 c135 c136 c137 c138 c139 c140 c141 c142 c143 c144 c145 c146 c147 c148 c149 c150 c151 c152 c153 c154 c155 c156 c157 c158 c159 c160 c161 c162 c163 c164 c165 c166 c167 c168 c169 c170 c171 c172 c173 c174 c175 c176 c177 c178 c179 c180 c181 c182 c183 c184 c185 c186 c187 c188 c189 c190 c191 c192 c193 c194 c195 c196 c197 c198 c199 c200 c201 c202 c203 c204 c205 c206 c207 c208 c209 c210 c211 c212 c213 : Value} (K0 : Act → World → Prop) (hexit : ∀ (v9 v33 v34 v35 v36 v37 v38 v39 v40 v41 v42 v43 v44 v45 v46 v47 v48 v49 v50 v51 v52 v53 v54 v55 v56 row : Value) (w' : World), OwnR strE w.heap.size w' row ((List.range m).map vl) → Below w.heap.size w w' → K0 ⟨List.toArray ((.slice q n c) :: (c1) :: (c2) :: (c3) :: (c4) :: (c5) :: (c6) :: (c7) :: (row) :: (v9) :: (c10) :: (c11) :: (c12) :: (c13) :: (c14) :: (c15) :: (c16) :: (c17) :: (c18) :: (c19) :: (c20) :: (c21) :: (c22) :: (c23) :: (c24) :: (c25) :: (c26) :: (c27) :: (c28) :: (c29) :: (c30) :: (c31) :: (c32) :: (v33) :: (v34) :: (v35) :: (v36) :: (v37) :: (v38) :: (v39) :: (v40) :: (v41) :: (v42) :: (v43) :: (v44) :: (v45) :: (v46) :: (v47) :: (v48) :: (v49) :: (v50) :: (v51) :: (v52) :: (v53) :: (v54) :: (v55) :: (v56) :: (c57) :: (c58) :: (c59) :: (c60) :: (c61) :: (c62) :: (c63) :: (c64) :: (c65) :: (c66) :: (c67) :: (c68) :: (c69) :: (c70) :: (c71) :: (c72) :: (c73) :: (c74) :: (c75) :: (c76) :: (c77) :: (c78) :: (c79) :: (c80) :: (c81) :: (c82) :: (c83) :: (c84) :: (c85) :: (c86) :: (c87) :: (c88) :: (c89) :: (c90) :: (c91) :: (c92) :: (c93) :: (c94) :: (c95) :: (c96) :: (c97) :: (c98) :: (c99) :: (c100) :: (c101) :: (c102) :: (c103) :: (c104) :: (c105) :: (c106) :: (c107) :: (c108) :: (c109) :: (c110) :: (c111) :: (c112) :: (c113) :: (c114) :: (c115) :: (c116) :: (c117) :: (c118) :: (c119) :: (c120) :: (c121) :: (c122) :: (c123) :: (c124) :: (c125) :: (c126) :: (c127) :: (c128) :: (c129) :: (c130) :: (c131) :: (c132) :: (c133) :: (c134) :: (c135) :: (c136) :: (c137) :: (c138) :: (c139) :: (c140) :: (c141) :: (c142) :: (c143) :: (c144) :: (c145) :: (c146) :: (c147) :: (c148) :: (c149) :: (c150) :: (c151) :: (c152) :: (c153) :: (c154) :: (c155) :: (c156) :: (c157) :: (c158) :: (c159) :: (c160) :: (c161) :: (c162) :: (c163) :: (c164) :: (c165) :: (c166) :: (c167) :: (c168) :: (c169) :: (c170) :: (c171) :: (c172) :: (c173) :: (c174) :: (c175) :: (c176) :: (c177) :: (c178) :: (c179) :: (c180) :: (c181) :: (c182) :: (c183) :: (c184) :: (c185) :: (c186) :: (c187) :: (c188) :: (c189) :: (c190) :: (c191) :: (c192) :: (c193) :: (c194) :: (c195) :: (c196) :: (c197) :: (c198) :: (c199) :: (c200) :: (c201) :: (c202) :: (c203) :: (c204) :: (c205) :: (c206) :: (c207) :: (c208) :: (c209) :: (c210) :: (c211) :: (c212) :: (c213) :: []), []⟩ w') :
    Code.wp Tryd.prog (Code.loop body1) (Exit.inBlock 0 (Exit.then K0 (bodyPost Tryd.prog Tryd.f4 (fun e w' => e = .returned (.bool true) ∧ Below w.heap.size w w')))) ⟨List.toArray ((.slice q n c) :: (c1) :: (c2) :: (c3) :: (c4) :: (c5) :: (c6) :: (c7) :: (.slice (some ⟨gr, 0, none⟩) 0 0) :: (.int .i64 0) :: (c10) :: (c11) :: (c12) :: (c13) :: (c14) :: (c15) :: (c16) :: (c17) :: (c18) :: (c19) :: (c20) :: (c21) :: (c22) :: (c23) :: (c24) :: (c25) :: (c26) :: (c27) :: (c28) :: (c29) :: (c30) :: (c31) :: (c32) :: (c33) :: (c34) :: (c35) :: (c36) :: (c37) :: (c38) :: (c39) :: (c40) :: (c41) :: (c42) :: (c43) :: (c44) :: (c45) :: (c46) :: (c47) :: (c48) :: (c49) :: (c50) :: (c51) :: (c52) :: (c53) :: (c54) :: (c55) :: (c56) :: (c57) :: (c58) :: (c59) :: (c60) :: (c61) :: (c62) :: (c63) :: (c64) :: (c65) :: (c66) :: (c67) :: (c68) :: (c69) :: (c70) :: (c71) :: (c72) :: (c73) :: (c74) :: (c75) :: (c76) :: (c77) :: (c78) :: (c79) :: (c80) :: (c81) :: (c82) :: (c83) :: (c84) :: (c85) :: (c86) :: (c87) :: (c88) :: (c89) :: (c90) :: (c91) :: (c92) :: (c93) :: (c94) :: (c95) :: (c96) :: (c97) :: (c98) :: (c99) :: (c100) :: (c101) :: (c102) :: (c103) :: (c104) :: (c105) :: (c106) :: (c107) :: (c108) :: (c109) :: (c110) :: (c111) :: (c112) :: (c113) :: (c114) :: (c115) :: (c116) :: (c117) :: (c118) :: (c119) :: (c120) :: (c121) :: (c122) :: (c123) :: (c124) :: (c125) :: (c126) :: (c127) :: (c128) :: (c129) :: (c130) :: (c131) :: (c132) :: (c133) :: (c134) :: (c135) :: (c136) :: (c137) :: (c138) :: (c139) :: (c140) :: (c141) :: (c142) :: (c143) :: (c144) :: (c145) :: (c146) :: (c147) :: (c148) :: (c149) :: (c150) :: (c151) :: (c152) :: (c153) :: (c154) :: (c155) :: (c156) :: (c157) :: (c158) :: (c159) :: (c160) :: (c161) :: (c162) :: (c163) :: (c164) :: (c165) :: (c166) :: (c167) :: (c168) :: (c169) :: (c170) :: (c171) :: (c172) :: (c173) :: (c174) :: (c175) :: (c176) :: (c177) :: (c178) :: (c179) :: (c180) :: (c181) :: (c182) :: (c183) :: (c184) :: (c185) :: (c186) :: (c187) :: (c188) :: (c189) :: (c190) :: (c191) :: (c192) :: (c193) :: (c194) :: (c195) :: (c196) :: (c197) :: (c198) :: (c199) :: (c200) :: (c201) :: (c202) :: (c203) :: (c204) :: (c205) :: (c206) :: (c207) :: (c208) :: (c209) :: (c210) :: (c211) :: (c212) :: (c213) :: []), []⟩ w10 := by
  have HX := Lib.hid hexit
  have HB := Lib.hid hHB
  have HLn := Lib.hid hL
  have HS := Lib.hid hHS
  have HZ := Lib.hid hHZ
  have HVe := Lib.hid hvl
  have HO0 := Lib.hid (show OwnR strE w.heap.size w10 (.slice (some ⟨gr, 0, none⟩) 0 0) ((List.range 0).map vl) from hO)
  have hmn : m ≤ n := by omega
  have hm10 : m ≤ 10 := by omega
  have HMm := Lib.hid hm
  clear hexit hHB hL hHS hHZ hvl hO hm
  conv => arg 2; arg 1; whnf
  go_loopw [8, 9] (fun v i wr => ∃ x : Nat, x ≤ m ∧ i = .int .i64 (x : Int) ∧ Hid (OwnR strE w.heap.size wr v ((List.range x).map vl)) ∧ Hid (Below w.heap.size w wr)) (fun _ i _ => m - (intOf i).toNat)
  case atStart => exact ⟨0, Nat.zero_le _, rfl, HO0, HB⟩
  case round =>
    clear HO0 HB
    obtain ⟨x, hx, rfl, HO, HB⟩ := hrel
    by_cases hlt : x < m
    · have t1 : decide ((x : Int) < (n : Int)) = true := decide_eq_true (by omega)
      have t2 : decide ((x : Int) < 10) = true := decide_eq_true (by omega)
      obtain ⟨b, off, rfl, hbl, hcx⟩ := ss_word (HS.out.keep HB.out) x (by rw [HLn.out]; omega)
      obtain ⟨Tx, hT, hT2⟩ := str_of2 (wd L x)
      rw [hT2] at hcx
      have hTz : Tx.size ≤ 140737488351232 := by rw [← str_len, hT]; exact wd_le HZ.out x
      obtain ⟨Vx, hVx⟩ : ∃ Vx : ByteArray, Vx = if Tx.size ≤ 20 then Tx else Tx.extract 0 20 := ⟨_, rfl⟩
      have hVxz := cutN hVx
      obtain ⟨mx, hmx⟩ : ∃ mx : Nat, mx = min Tx.size 20 := ⟨_, rfl⟩
      have hminmx : min (Tx.size : Int) 20 = (mx : Int) := by omega
      have slVx : ∀ W, (Instr.slice 9 (.string Tx) none (some (.int .i64 (mx : Int))) none).run Tryd.prog W = .ok (.string Vx) W := fun W => by
        have h := run_slice_string_h (P := Tryd.prog) W 9 Tx Tryd.underlying9 .i64 (mx : Int) (by omega) (by omega)
        rw [h, hVx]
        split
        · rw [show ((mx : Nat) : Int).toNat = Tx.size by omega, ByteArray.extract_zero_size]
        · rw [show ((mx : Nat) : Int).toNat = 20 by omega]
      have HVx := Lib.hid (show Vx.data.toList = vl x by rw [HVe.out, cut20 hVx, hT])
      clear hVx hmx hVxz
      have hx0 : (0 : Int) ≤ (x : Int) := by omega
      have hxn : (x : Int) < (n : Int) := by omega
      have HO1 := Lib.hid (HO.out.keep (Kit.below1 wr (.cells #[.string Vx] 9)))
      have HBa := Lib.hid (HB.out.alloc HB.out.size (.cells #[.string Vx] 9))
      have HC := Lib.hid (rec_new strE wr wr.heap.size Vx.data.toList #[.string Vx] (by show _ = [Value.string ⟨Vx.data.toList.toArray⟩].toArray; rw [self_str]) rfl)
      have HSz := Lib.hid (show ((List.range x).map vl).length ≤ 1048576 by simp; omega)
      have hcx2 := ((Kit.below1 wr (.cells #[.string Vx] 9)).cell (p := ⟨b, off + x, none⟩) hbl).trans hcx
      clear hbl hT hT2
      go_wp2_with fail
      go_region_law (refine step_append_r strE (w0 := w) rfl (.tmp 43) (.tmp 55) rfl _ _ rfl (by first | exact HO1.out | exact OwnR.drew HO1.out) (by first | exact HBa.out | exact HBa.out.drew) wr.heap.size Vx.data.toList 1 rfl (by exact HC.out) HSz.out ?_; intro v' w5 ho5 hb5)
      all_goals
        have HO5 := Lib.hid (show OwnR strE w.heap.size w5 v' ((List.range (x + 1)).map vl) by rw [range_vl, ← HVx.out]; exact ho5)
        have HB5 := Lib.hid hb5
        clear ho5 hb5 HO HB HO1 HBa HC HSz
        go_wp2_with fail
        go_roundw
        case rel => exact ⟨x + 1, by omega, by go_num, HO5, HB5⟩
        case measure => simp [intOf]; omega
    · obtain rfl : m = x := by omega
      have tt : (decide ((m : Int) < (n : Int)) = false ∧ ¬ (m : Int) < (n : Int)) ∨ ((decide ((m : Int) < (n : Int)) = true ∧ (m : Int) < (n : Int)) ∧ decide ((m : Int) < 10) = false ∧ ¬ (m : Int) < 10) := by
        have := HMm.out
        simp only [decide_eq_true_eq, decide_eq_false_iff_not]
        omega
      clear hmn hm10 hx hlt
      rcases tt with ⟨t1, t3⟩ | ⟨⟨t1, t3⟩, t2, t4⟩
      all_goals
        go_wp2_with fail
        exact HX.out _ _ _ _ _ _ _ _ _ _ _ _ _ _ _ _ _ _ _ _ _ _ _ _ _ _ _ HO.out HB.out

set_option maxHeartbeats 16000000 in
theorem loop2_any (w w10 : World) (q : Option Addr) (L : List (List UInt8)) (c m kx ga gb : Nat) (vl : Nat → List UInt8)
    (hHG : ∀ W, Below w.heap.size w W → Gt W) (hHB : Below w.heap.size w w10) (hL : L.length = m) (hcn : m ≤ c) (hcm : c ≤ 9223372036854775807) (hHS : StrT.Ss w10 q L) (hqb : ∀ a, q = some a → a.block ≠ ga ∧ a.block ≠ gb) (hm10 : m ≤ 10) (hk : kx ≤ m) (hvl : ∀ j, j < m → wd L j = vl j)
    (hga : VB w10 ga pv0) (hgb : VB w10 gb pv0) (hab : ga ≠ gb) (hwa : w.heap.size ≤ ga) (hwb : w.heap.size ≤ gb)
    {c0 c1 c2 c3 c4 c5 c6 c7 c9 c14 c15 c16 c17 c18 c19 c20 c21 c22 c23 c24 c25 c26 c27 c28 c29 c30 c31 c32 c33 c34 c35 c36 c37 c38 c39 c40 c41 c42 c43 c44 c45 c46 c47 c48 c49 c50 c51 c52 c53 c54 c55 c56 c57 c58 c59 c60 c61 c62 c63 c64 c65 c66 c67 c68 c69 c70 c71 c72 c73 c74 c75 c76 c77 c78 c79 c80 c81 c82 c83 c84 c85 c86 c87 c88 c89 c90 c91 c92 c93 c94 c95 c96 c97 c98 c99 c100 c101 c102 c103 c104 c105 c106 c107 c108 c109 c110 c111 c112 c113 c114 c115 c116 c117 c118 c119 c120 c121 c122 c123 c124 c125 c126 c127 c128 c129 c130 c131 c132 c133 c134 c135 c136 c137 c138 c139 c140 c141 c142 c143 c144 c145 c146 c147 c148 c149 c150 c151 c152 c153 c154 c155 c156 c157 c158 c159 c160 c161 c162 c163 c164 c165 c166 c167 c168 c169 c170 c171 c172 c173 c174 c175 c176 c177 c178 c179 c180 c181 c182 c183 c184 c185 c186 c187 c188 c189 c190 c191 c192 c193 c194 c195 c196 c197 c198 c199 c200 c201 c202 c203 c204 c205 c206 c207 c208 c209 c210 c211 c212 c213 : Value} (K0 : Act → World → Prop) (hexit : ∀ (v13 v70 v71 v72 v73 v74 v75 v76 v77 v78 v79 v80 v81 v82 v83 v84 v85 v86 v87 v88 v89 v90 v91 v92 v93 v94 v95 v96 v97 v98 v99 v100 v101 v102 v103 v104 : Value) (w' : World) (p r : PV), p.d = setV (putT vl (List.range m)) → r.d = setV (putT vl (pairL kx m m)) → VB w' ga p → VB w' gb r → StrT.Ss w' q L → Below w.heap.size w w' → K0 ⟨List.toArray ((c0) :: (c1) :: (c2) :: (c3) :: (c4) :: (c5) :: (c6) :: (c7) :: (.slice q m c) :: (c9) :: (.int .i64 (kx : Int)) :: (.pointer (some ⟨ga, 0, none⟩)) :: (.pointer (some ⟨gb, 0, none⟩)) :: (v13) :: (c14) :: (c15) :: (c16) :: (c17) :: (c18) :: (c19) :: (c20) :: (c21) :: (c22) :: (c23) :: (c24) :: (c25) :: (c26) :: (c27) :: (c28) :: (c29) :: (c30) :: (c31) :: (c32) :: (c33) :: (c34) :: (c35) :: (c36) :: (c37) :: (c38) :: (c39) :: (c40) :: (c41) :: (c42) :: (c43) :: (c44) :: (c45) :: (c46) :: (c47) :: (c48) :: (c49) :: (c50) :: (c51) :: (c52) :: (c53) :: (c54) :: (c55) :: (c56) :: (c57) :: (c58) :: (c59) :: (c60) :: (c61) :: (c62) :: (c63) :: (c64) :: (c65) :: (c66) :: (c67) :: (c68) :: (c69) :: (v70) :: (v71) :: (v72) :: (v73) :: (v74) :: (v75) :: (v76) :: (v77) :: (v78) :: (v79) :: (v80) :: (v81) :: (v82) :: (v83) :: (v84) :: (v85) :: (v86) :: (v87) :: (v88) :: (v89) :: (v90) :: (v91) :: (v92) :: (v93) :: (v94) :: (v95) :: (v96) :: (v97) :: (v98) :: (v99) :: (v100) :: (v101) :: (v102) :: (v103) :: (v104) :: (c105) :: (c106) :: (c107) :: (c108) :: (c109) :: (c110) :: (c111) :: (c112) :: (c113) :: (c114) :: (c115) :: (c116) :: (c117) :: (c118) :: (c119) :: (c120) :: (c121) :: (c122) :: (c123) :: (c124) :: (c125) :: (c126) :: (c127) :: (c128) :: (c129) :: (c130) :: (c131) :: (c132) :: (c133) :: (c134) :: (c135) :: (c136) :: (c137) :: (c138) :: (c139) :: (c140) :: (c141) :: (c142) :: (c143) :: (c144) :: (c145) :: (c146) :: (c147) :: (c148) :: (c149) :: (c150) :: (c151) :: (c152) :: (c153) :: (c154) :: (c155) :: (c156) :: (c157) :: (c158) :: (c159) :: (c160) :: (c161) :: (c162) :: (c163) :: (c164) :: (c165) :: (c166) :: (c167) :: (c168) :: (c169) :: (c170) :: (c171) :: (c172) :: (c173) :: (c174) :: (c175) :: (c176) :: (c177) :: (c178) :: (c179) :: (c180) :: (c181) :: (c182) :: (c183) :: (c184) :: (c185) :: (c186) :: (c187) :: (c188) :: (c189) :: (c190) :: (c191) :: (c192) :: (c193) :: (c194) :: (c195) :: (c196) :: (c197) :: (c198) :: (c199) :: (c200) :: (c201) :: (c202) :: (c203) :: (c204) :: (c205) :: (c206) :: (c207) :: (c208) :: (c209) :: (c210) :: (c211) :: (c212) :: (c213) :: []), []⟩ w') :
    Code.wp Tryd.prog (Code.loop body2) (Exit.inBlock 2 (Exit.then K0 (bodyPost Tryd.prog Tryd.f4 (fun e w' => e = .returned (.bool true) ∧ Below w.heap.size w w')))) ⟨List.toArray ((c0) :: (c1) :: (c2) :: (c3) :: (c4) :: (c5) :: (c6) :: (c7) :: (.slice q m c) :: (c9) :: (.int .i64 (kx : Int)) :: (.pointer (some ⟨ga, 0, none⟩)) :: (.pointer (some ⟨gb, 0, none⟩)) :: (.int .i64 0) :: (c14) :: (c15) :: (c16) :: (c17) :: (c18) :: (c19) :: (c20) :: (c21) :: (c22) :: (c23) :: (c24) :: (c25) :: (c26) :: (c27) :: (c28) :: (c29) :: (c30) :: (c31) :: (c32) :: (c33) :: (c34) :: (c35) :: (c36) :: (c37) :: (c38) :: (c39) :: (c40) :: (c41) :: (c42) :: (c43) :: (c44) :: (c45) :: (c46) :: (c47) :: (c48) :: (c49) :: (c50) :: (c51) :: (c52) :: (c53) :: (c54) :: (c55) :: (c56) :: (c57) :: (c58) :: (c59) :: (c60) :: (c61) :: (c62) :: (c63) :: (c64) :: (c65) :: (c66) :: (c67) :: (c68) :: (c69) :: (c70) :: (c71) :: (c72) :: (c73) :: (c74) :: (c75) :: (c76) :: (c77) :: (c78) :: (c79) :: (c80) :: (c81) :: (c82) :: (c83) :: (c84) :: (c85) :: (c86) :: (c87) :: (c88) :: (c89) :: (c90) :: (c91) :: (c92) :: (c93) :: (c94) :: (c95) :: (c96) :: (c97) :: (c98) :: (c99) :: (c100) :: (c101) :: (c102) :: (c103) :: (c104) :: (c105) :: (c106) :: (c107) :: (c108) :: (c109) :: (c110) :: (c111) :: (c112) :: (c113) :: (c114) :: (c115) :: (c116) :: (c117) :: (c118) :: (c119) :: (c120) :: (c121) :: (c122) :: (c123) :: (c124) :: (c125) :: (c126) :: (c127) :: (c128) :: (c129) :: (c130) :: (c131) :: (c132) :: (c133) :: (c134) :: (c135) :: (c136) :: (c137) :: (c138) :: (c139) :: (c140) :: (c141) :: (c142) :: (c143) :: (c144) :: (c145) :: (c146) :: (c147) :: (c148) :: (c149) :: (c150) :: (c151) :: (c152) :: (c153) :: (c154) :: (c155) :: (c156) :: (c157) :: (c158) :: (c159) :: (c160) :: (c161) :: (c162) :: (c163) :: (c164) :: (c165) :: (c166) :: (c167) :: (c168) :: (c169) :: (c170) :: (c171) :: (c172) :: (c173) :: (c174) :: (c175) :: (c176) :: (c177) :: (c178) :: (c179) :: (c180) :: (c181) :: (c182) :: (c183) :: (c184) :: (c185) :: (c186) :: (c187) :: (c188) :: (c189) :: (c190) :: (c191) :: (c192) :: (c193) :: (c194) :: (c195) :: (c196) :: (c197) :: (c198) :: (c199) :: (c200) :: (c201) :: (c202) :: (c203) :: (c204) :: (c205) :: (c206) :: (c207) :: (c208) :: (c209) :: (c210) :: (c211) :: (c212) :: (c213) :: []), []⟩ w10 := by
  have HX := Lib.hid hexit
  have HG := Lib.hid hHG
  have HB := Lib.hid hHB
  have HLn := Lib.hid hL
  have HS := Lib.hid hHS
  have HQ := Lib.hid hqb
  have HVe := Lib.hid hvl
  have HA := Lib.hid hga
  have HBb := Lib.hid hgb
  have HAB := Lib.hid hab
  have HG_ga := Lib.hid hwa
  have HG_gb := Lib.hid hwb
  clear hexit hHG hHB hL hHS hqb hvl hga hgb hab hwa hwb
  have HE0 := Lib.hid (show PV.d pv0 = setV (putT vl (List.range 0)) from rfl)
  have HF0 := Lib.hid (show PV.d pv0 = setV (putT vl (pairL kx m 0)) from rfl)
  have HR0 := Lib.hid (show ∀ j, PV.at_ pv0 j → j ≠ ga ∧ j ≠ gb from fun j hj => absurd hj (pv0_at j))
  conv => arg 2; arg 1; whnf
  go_loopw [13] (fun i wr => ∃ (x : Nat) (p r : PV), x ≤ m ∧ i = .int .i64 (x : Int) ∧ Hid (p.d = setV (putT vl (List.range x))) ∧ Hid (r.d = setV (putT vl (pairL kx m x))) ∧ Hid (VB wr ga p) ∧ Hid (VB wr gb r) ∧ Hid (∀ j, p.at_ j → j ≠ ga ∧ j ≠ gb) ∧ Hid (∀ j, r.at_ j → j ≠ ga ∧ j ≠ gb) ∧ Hid (StrT.Ss wr q L) ∧ Hid (Below w.heap.size w wr)) (fun i _ => m - (intOf i).toNat)
  case atStart => exact ⟨0, pv0, pv0, Nat.zero_le _, rfl, HE0, HF0, HA, HBb, HR0, HR0, HS, HB⟩
  case round =>
    clear HE0 HF0 HA HBb HR0 HS HB
    obtain ⟨x, p, r, hx, rfl, HDp, HDr, HVp, HVr, HRp, HRr, HS, HB⟩ := hrel
    by_cases hlt : x < m
    · have t1 : decide ((x : Int) < (m : Int)) = true := decide_eq_true (by omega)
      have z1 : ((m : Int) == 0) = false := by rw [beq_eq_false_iff_ne]; omega
      have z2 : ¬ (m : Int) = 0 := by omega
      have z3 : ¬ m = 0 := by omega
      obtain ⟨jx, hjx⟩ : ∃ jx : Nat, jx = (x + kx) % m := ⟨_, rfl⟩
      have hjm : jx < m := by rw [hjx]; exact Nat.mod_lt _ (by omega)
      have HJ := Lib.hid (show ((x : Int) + (kx : Int)) % (m : Int) = (jx : Int) by rw [hjx, Int.natCast_emod, Int.natCast_add])
      have HJx := Lib.hid hjx
      clear hjx
      obtain ⟨b, off, rfl, hbl, hcx⟩ := ss_word (HS.out) x (by rw [HLn.out]; omega)
      obtain ⟨Tx, hT, hT2⟩ := str_of2 (wd L x)
      rw [hT2] at hcx
      have HTx := Lib.hid (show Tx.data.toList = vl x by rw [hT]; exact HVe.out _ (by omega))
      clear hT hT2 hbl
      have hx0 : (0 : Int) ≤ (x : Int) := by omega
      have hxn : (x : Int) < (m : Int) := by omega
      have hj0 : (0 : Int) ≤ (jx : Int) := by omega
      have hjn : (jx : Int) < (m : Int) := by omega
      have HLp := Lib.hid (show (putT vl (List.range x)).length ≤ 10 from Nat.le_trans (put_len vl _) (by simp; omega))
      have HLr := Lib.hid (show (putT vl (pairL kx m x)).length ≤ 20 from Nat.le_trans (put_len vl _) (by rw [pair_len]; omega))
      obtain ⟨k1, S1, ql1, nl1, cl1, qh1, nh1, ch1, qz1, nz1, cz1, d1⟩ := p
      obtain ⟨k2, S2, ql2, nl2, cl2, qh2, nh2, ch2, qz2, nz2, cz2, d2⟩ := r
      go_upto_region 14 with fail
      have CD := Lib.hid (fun (Y : World) (gq : Nat) (hB : Below w.heap.size w Y) (hpv : PV.In Y ⟨k1, S1, ql1, nl1, cl1, qh1, nh1, ch1, qz1, nz1, cz1, d1⟩) (hss : StrT.Ss Y (some ⟨gq, 0, none⟩) [(⟨#[115, 97, 100, 100]⟩ : ByteArray).data.toList, (⟨#[107]⟩ : ByteArray).data.toList, (Tx : ByteArray).data.toList]) => (show Calls Tryd.prog 11 #[.agg #[.int .u8 k1, .string S1, .slice ql1 nl1 cl1, .slice qh1 nh1 ch1, .slice qz1 nz1 cz1], .slice (some ⟨gq, 0, none⟩) 3 3] Y (DoN (setV (insS (putT vl (List.range x)) Tx.data.toList)) ((rowD 0 (putT vl (List.range x)) [Tx.data.toList]).2) Y) from don_to (add_one _ _) (onR 0 (by decide) ⟨k1, S1, ql1, nl1, cl1, qh1, nh1, ch1, qz1, nz1, cz1, d1⟩ (putT vl (List.range x)) ⟨#[115, 97, 100, 100]⟩ ⟨#[107]⟩ [(Tx : ByteArray).data.toList] (some ⟨gq, 0, none⟩) 3 3 Y hpv HDp.out (HG.out Y hB) rfl (Nat.le_refl _) (by decide) hss (by decide) (by decide) (tame0 (put_up vl _) (by have := HLp.out; simp; omega)))))
      go_cut [] (fun wx => ∃ (k9 : Int) (S9 : ByteArray) (ql9 : Option Addr) (nl9 cl9 : Nat) (qh9 : Option Addr) (nh9 ch9 : Nat) (qz9 : Option Addr) (nz9 cz9 : Nat) (d9 : V), Hid (Trn w wr wx ga ⟨k9, S9, ql9, nl9, cl9, qh9, nh9, ch9, qz9, nz9, cz9, d9⟩ (setV (insS (putT vl (List.range x)) Tx.data.toList))))
      case first =>
        have hr0 : VB _ ga ⟨k1, S1, ql1, nl1, cl1, qh1, nh1, ch1, qz1, nz1, cz1, d1⟩ := HVp.out
        obtain ⟨-, -, r00, r01, r02, r03, r04⟩ := hr0.room
        dsimp only at r00 r01 r02 r03 r04
        clear hr0
        have hr1 : VB _ ga ⟨k1, S1, ql1, nl1, cl1, qh1, nh1, ch1, qz1, nz1, cz1, d1⟩ := HVp.out.keep (Kit.below1 _ (.cells #[.string ⟨#[115, 97, 100, 100]⟩, .string ⟨#[107]⟩, .string Tx] 9))
        obtain ⟨-, -, r10, r11, r12, r13, r14⟩ := hr1.room
        dsimp only at r10 r11 r12 r13 r14
        clear hr1
        have hu0 := hcx
        have hb1 := Kit.below1 wr (.cells #[.string ⟨#[115, 97, 100, 100]⟩, .string ⟨#[107]⟩, .string Tx] 9)
        have HW1 := Lib.hid hb1
        clear hb1
        go_region_law (first
          | (go_simp; (with_reducible refine (CD.out _ _ (by first | exact HB.out.trans (HW1.out.mono HB.out.size) | exact (HB.out.trans (HW1.out.mono HB.out.size)).drew) (by first | exact (HVp.out.keep HW1.out).pv | exact (HVp.out.keep HW1.out.drew).pv) (by first | exact ss3_at wr _ rfl ⟨#[115, 97, 100, 100]⟩ ⟨#[107]⟩ Tx | exact ss3_at _ _ (by simp) ⟨#[115, 97, 100, 100]⟩ ⟨#[107]⟩ Tx | exact StrT.Ss.keep (ss3_at wr _ rfl ⟨#[115, 97, 100, 100]⟩ ⟨#[107]⟩ Tx) (Below.refl _ _).drew)).mono ?_); rintro e wq5 ⟨p9, vr, rfl, hI, hd, hn, hA, hb5⟩; dsimp only [PV.agg]
             obtain ⟨k9, S9, ql9, nl9, cl9, qh9, nh9, ch9, qz9, nz9, cz9, d9⟩ := p9
             dsimp only
             have hb5' : Below wr.heap.size wr wq5 := by first | exact c_al hb5 | exact c_al (c_dr hb5)
             have hK := HVp.out.keep hb5'
             have HTr := Lib.hid (trn_five (w := w) (wr := wr) (p := ⟨k9, S9, ql9, nl9, cl9, qh9, nh9, ch9, qz9, nz9, cz9, d9⟩) hK hI hd (fun j hj => by have h1 := hn j hj; first | omega | (simp at h1; omega)) hb5' HB.out HG_ga.out HVp.out.lt)
             obtain ⟨-, -, r50, r51, r52, r53, r54⟩ := hK.room
             dsimp only at r50 r51 r52 r53 r54
             have y0 := hK.room.frz 0
             have y1 := hK.room.frz 1
             have y2 := hK.room.frz 2
             have y3 := hK.room.frz 3
             have y4 := hK.room.frz 4
             clear hI hd hn hA hb5 hb5' hK))
        all_goals
          go_wp2_with fail
          go_meet
          exact ⟨_, _, _, _, _, _, _, _, _, _, _, _, HTr⟩
      case rest =>
      obtain ⟨k9, S9, ql9, nl9, cl9, qh9, nh9, ch9, qz9, nz9, cz9, d9, HTr⟩ := hcut
      rename World => wa
      have HVr2 := Lib.hid (HTr.out.vb HVr.out (fun e => HAB.out e.symm) (fun j hj => (HRr.out j hj).1))
      have HVp2 := Lib.hid HTr.out.v
      have HDp2 := Lib.hid (show PV.d ⟨k9, S9, ql9, nl9, cl9, qh9, nh9, ch9, qz9, nz9, cz9, d9⟩ = setV (putT vl (List.range (x + 1))) by rw [List.range_succ, put_snoc, ← HTx.out]; exact HTr.out.e)
      have HS2 := Lib.hid (HTr.out.ss HS.out (fun a ha => (HQ.out a ha).1))
      have HRp2 := Lib.hid (fun j (hj : PV.at_ ⟨k9, S9, ql9, nl9, cl9, qh9, nh9, ch9, qz9, nz9, cz9, d9⟩ j) => (show j ≠ ga ∧ j ≠ gb from by have h1 := HTr.out.n j hj; have := HVp.out.lt; have := HVr.out.lt; omega))
      have HB2 := Lib.hid HTr.out.b
      clear HTr CD HVp HVr HDp HRp HB HLp HS hcx HTx
      have HB := HB2
      have HS := HS2
      obtain ⟨b9, off9, eb, hbl, hcx⟩ := ss_word (HS.out) x (by rw [HLn.out]; omega)
      injection eb with eb
      injection eb with eb1 eb2
      subst eb1 eb2
      obtain ⟨Tx, hT, hT2⟩ := str_of2 (wd L x)
      rw [hT2] at hcx
      have HTx := Lib.hid (show Tx.data.toList = vl x by rw [hT]; exact HVe.out _ (by omega))
      clear hT hT2 hbl
      obtain ⟨b', off', eb, hbl, hcy⟩ := ss_word (HS.out) jx (by rw [HLn.out]; omega)
      injection eb with eb
      injection eb with eb1 eb2
      subst eb1 eb2
      obtain ⟨Tj, hT, hT2⟩ := str_of2 (wd L jx)
      rw [hT2] at hcy
      have HTj := Lib.hid (show Tj.data.toList = vl jx by rw [hT]; exact HVe.out _ (by omega))
      clear hT hT2 hbl
      have hJ := HJ.out
      have hJt : ((x : Int) + (kx : Int)).tmod (m : Int) = (jx : Int) := by rw [Int.tmod_eq_emod_of_nonneg (by omega)]; exact hJ
      have hJb : (x : Int) + (kx : Int) ≤ 20 := by omega
      have hwk : IntKind.i64.wrap ((x : Int) + (kx : Int)) = (x : Int) + (kx : Int) := IntWalk.i64_in _ (by omega)
      go_upto_region 15 with fail
      have CD := Lib.hid (fun (Y : World) (gq : Nat) (hB : Below w.heap.size w Y) (hpv : PV.In Y ⟨k2, S2, ql2, nl2, cl2, qh2, nh2, ch2, qz2, nz2, cz2, d2⟩) (hss : StrT.Ss Y (some ⟨gq, 0, none⟩) [(⟨#[115, 97, 100, 100]⟩ : ByteArray).data.toList, (⟨#[107]⟩ : ByteArray).data.toList, (Tj : ByteArray).data.toList, (Tx : ByteArray).data.toList]) => (show Calls Tryd.prog 11 #[.agg #[.int .u8 k2, .string S2, .slice ql2 nl2 cl2, .slice qh2 nh2 ch2, .slice qz2 nz2 cz2], .slice (some ⟨gq, 0, none⟩) 4 4] Y (DoN (setV (insS (insS (putT vl (pairL kx m x)) Tj.data.toList) Tx.data.toList)) ((rowD 0 (putT vl (pairL kx m x)) [Tj.data.toList, Tx.data.toList]).2) Y) from don_to (add_both _ _ _) (onR 0 (by decide) ⟨k2, S2, ql2, nl2, cl2, qh2, nh2, ch2, qz2, nz2, cz2, d2⟩ (putT vl (pairL kx m x)) ⟨#[115, 97, 100, 100]⟩ ⟨#[107]⟩ [(Tj : ByteArray).data.toList, (Tx : ByteArray).data.toList] (some ⟨gq, 0, none⟩) 4 4 Y hpv HDr.out (HG.out Y hB) rfl (Nat.le_refl _) (by decide) hss (by decide) (by decide) (tame0 (put_up vl _) (by have := HLr.out; simp; omega)))))
      have hr0 : VB _ gb ⟨k2, S2, ql2, nl2, cl2, qh2, nh2, ch2, qz2, nz2, cz2, d2⟩ := HVr2.out
      obtain ⟨-, -, r00, r01, r02, r03, r04⟩ := hr0.room
      dsimp only at r00 r01 r02 r03 r04
      clear hr0
      have hr1 : VB _ gb ⟨k2, S2, ql2, nl2, cl2, qh2, nh2, ch2, qz2, nz2, cz2, d2⟩ := HVr2.out.keep (Kit.below1 _ (.cells #[.string ⟨#[115, 97, 100, 100]⟩, .string ⟨#[107]⟩, .string Tj, .string Tx] 9))
      obtain ⟨-, -, r10, r11, r12, r13, r14⟩ := hr1.room
      dsimp only at r10 r11 r12 r13 r14
      clear hr1
      have hu0 := hcx
      have hu1 := hcy
      have hb1 := Kit.below1 wa (.cells #[.string ⟨#[115, 97, 100, 100]⟩, .string ⟨#[107]⟩, .string Tj, .string Tx] 9)
      have HW1 := Lib.hid hb1
      clear hb1
      go_region_law (first
        | (go_simp; (with_reducible refine (CD.out _ _ (by first | exact HB.out.trans (HW1.out.mono HB.out.size) | exact (HB.out.trans (HW1.out.mono HB.out.size)).drew) (by first | exact (HVr2.out.keep HW1.out).pv | exact (HVr2.out.keep HW1.out.drew).pv) (by first | exact ss4_at wa _ rfl ⟨#[115, 97, 100, 100]⟩ ⟨#[107]⟩ Tj Tx | exact ss4_at _ _ (by simp) ⟨#[115, 97, 100, 100]⟩ ⟨#[107]⟩ Tj Tx | exact StrT.Ss.keep (ss4_at wa _ rfl ⟨#[115, 97, 100, 100]⟩ ⟨#[107]⟩ Tj Tx) (Below.refl _ _).drew)).mono ?_); rintro e wq5 ⟨p9, vr, rfl, hI, hd, hn, hA, hb5⟩; dsimp only [PV.agg]
           obtain ⟨k7, S7, ql7, nl7, cl7, qh7, nh7, ch7, qz7, nz7, cz7, d7⟩ := p9
           dsimp only
           have hb5' : Below wa.heap.size wa wq5 := by first | exact c_al hb5 | exact c_al (c_dr hb5)
           have hK := HVr2.out.keep hb5'
           have HTr := Lib.hid (trn_five (w := w) (wr := wa) (p := ⟨k7, S7, ql7, nl7, cl7, qh7, nh7, ch7, qz7, nz7, cz7, d7⟩) hK hI hd (fun j hj => by have h1 := hn j hj; first | omega | (simp at h1; omega)) hb5' HB.out HG_gb.out HVr2.out.lt)
           obtain ⟨-, -, r50, r51, r52, r53, r54⟩ := hK.room
           dsimp only at r50 r51 r52 r53 r54
           have y0 := hK.room.frz 0
           have y1 := hK.room.frz 1
           have y2 := hK.room.frz 2
           have y3 := hK.room.frz 3
           have y4 := hK.room.frz 4
           clear hI hd hn hA hb5 hb5' hK))
      all_goals
        have HVp3 := Lib.hid (HTr.out.vb HVp2.out HAB.out (fun j hj => (HRp2.out j hj).2))
        have HVr3 := Lib.hid HTr.out.v
        have HDr3 := Lib.hid (show PV.d ⟨k7, S7, ql7, nl7, cl7, qh7, nh7, ch7, qz7, nz7, cz7, d7⟩ = setV (putT vl (pairL kx m (x + 1))) by rw [show pairL kx m (x + 1) = pairL kx m x ++ [(x + kx) % m] ++ [x] from rfl, put_snoc, put_snoc, ← HJx.out, ← HTj.out, ← HTx.out]; exact HTr.out.e)
        have HS3 := Lib.hid (HTr.out.ss HS2.out (fun a ha => (HQ.out a ha).2))
        have HRr3 := Lib.hid (fun j (hj : PV.at_ ⟨k7, S7, ql7, nl7, cl7, qh7, nh7, ch7, qz7, nz7, cz7, d7⟩ j) => (show j ≠ ga ∧ j ≠ gb from by have h1 := HTr.out.n j hj; have := HVp2.out.lt; have := HVr2.out.lt; omega))
        have HB3 := Lib.hid HTr.out.b
        clear HTr CD HVp2 HVr2 HDr HS2 HS HB HB2 HRr HLr hJ hJt hJb hwk HJ HJx HTj HTx
        go_wp2_with fail
        go_roundw
        case rel => exact ⟨x + 1, ⟨k9, S9, ql9, nl9, cl9, qh9, nh9, ch9, qz9, nz9, cz9, d9⟩, ⟨k7, S7, ql7, nl7, cl7, qh7, nh7, ch7, qz7, nz7, cz7, d7⟩, by omega, by go_num, HDp2, HDr3, HVp3, HVr3, HRp2, HRr3, HS3, HB3⟩
        case measure => simp [intOf]; omega
    · obtain rfl : m = x := by omega
      have t1 : decide ((m : Int) < (m : Int)) = false := decide_eq_false (by omega)
      obtain ⟨k1, S1, ql1, nl1, cl1, qh1, nh1, ch1, qz1, nz1, cz1, d1⟩ := p
      obtain ⟨k2, S2, ql2, nl2, cl2, qh2, nh2, ch2, qz2, nz2, cz2, d2⟩ := r
      go_wp2_with fail
      exact HX.out _ _ _ _ _ _ _ _ _ _ _ _ _ _ _ _ _ _ _ _ _ _ _ _ _ _ _ _ _ _ _ _ _ _ _ _ _ ⟨k1, S1, ql1, nl1, cl1, qh1, nh1, ch1, qz1, nz1, cz1, d1⟩ ⟨k2, S2, ql2, nl2, cl2, qh2, nh2, ch2, qz2, nz2, cz2, d2⟩ HDp.out HDr.out HVp.out HVr.out HS.out HB.out

theorem is_in {L : List (List UInt8)} {s : List UInt8} (h : s ∈ L) : rowD 2 L [s] = (L, int 1) := by
  show (L, int (if s ∈ L then 1 else 0)) = _
  rw [if_pos h]
theorem is_out {L : List (List UInt8)} {s : List UInt8} (h : s ∉ L) : rowD 2 L [s] = (L, int 0) := by
  show (L, int (if s ∈ L then 1 else 0)) = _
  rw [if_neg h]
set_option maxHeartbeats 16000000 in
theorem loop3_any (w w10 : World) (q : Option Addr) (L : List (List UInt8)) (c m ga : Nat) (F : List (List UInt8)) (k1 : Int) (S1 : ByteArray) (ql1 : Option Addr) (nl1 cl1 : Nat) (qh1 : Option Addr) (nh1 ch1 : Nat) (qz1 : Option Addr) (nz1 cz1 : Nat) (d1 : V)
    (hHG : ∀ W, Below w.heap.size w W → Gt W) (hHB : Below w.heap.size w w10) (hL : L.length = m) (hcn : m ≤ c) (hcm : c ≤ 9223372036854775807) (hHS : StrT.Ss w10 q L) (hm10 : m ≤ 10) (hvl : ∀ j, j < m → wd L j ∈ F) (hF : rises F)
    (hga : VB w10 ga ⟨k1, S1, ql1, nl1, cl1, qh1, nh1, ch1, qz1, nz1, cz1, d1⟩) (hd : d1 = setV F)
    {c0 c1 c2 c3 c4 c5 c6 c7 c9 c10 c12 c13 c14 c15 c16 c17 c18 c19 c20 c21 c22 c23 c24 c25 c26 c27 c29 c30 c31 c32 c33 c34 c35 c36 c37 c38 c39 c40 c41 c42 c43 c44 c45 c46 c47 c48 c49 c50 c51 c52 c53 c54 c55 c56 c57 c58 c59 c60 c61 c62 c63 c64 c65 c66 c67 c68 c69 c70 c71 c72 c73 c74 c75 c76 c77 c78 c79 c80 c81 c82 c83 c84 c85 c86 c87 c88 c89 c90 c91 c92 c93 c94 c95 c96 c97 c98 c99 c100 c101 c102 c103 c104 c105 c106 c107 c108 c109 c110 c111 c112 c113 c114 c115 c116 c117 c118 c119 c120 c121 c122 c123 c124 c125 c126 c127 c128 c129 c130 c131 c132 c133 c134 c135 c136 c137 c138 c139 c140 c141 c142 c143 c144 c145 c146 c147 c148 c149 c150 c151 c152 c153 c154 c155 c156 c157 c158 c159 c160 c161 c162 c163 c164 c165 c166 c167 c168 c169 c170 c171 c172 c173 c174 c175 c176 c177 c178 c179 c180 c181 c182 c183 c184 c185 c186 c187 c188 c189 c190 c191 c192 c193 c194 c195 c196 c197 c198 c199 c200 c201 c202 c203 c204 c205 c206 c207 c208 c209 c210 c211 c212 c213 : Value} (K0 : Act → World → Prop) (hexit : ∀ (v6 v28 v29 v30 v184 v185 v186 v187 v188 v189 v190 v191 v192 v193 v194 v195 v196 v197 v198 v199 v200 v201 v202 : Value) (w' : World), Below w10.heap.size w10 w' → K0 ⟨List.toArray ((c0) :: (c1) :: (c2) :: (c3) :: (c4) :: (c5) :: (v6) :: (c7) :: (.slice q m c) :: (c9) :: (c10) :: (.pointer (some ⟨ga, 0, none⟩)) :: (c12) :: (c13) :: (c14) :: (c15) :: (c16) :: (c17) :: (c18) :: (c19) :: (c20) :: (c21) :: (c22) :: (c23) :: (c24) :: (c25) :: (c26) :: (c27) :: (v28) :: (v29) :: (v30) :: (c31) :: (c32) :: (c33) :: (c34) :: (c35) :: (c36) :: (c37) :: (c38) :: (c39) :: (c40) :: (c41) :: (c42) :: (c43) :: (c44) :: (c45) :: (c46) :: (c47) :: (c48) :: (c49) :: (c50) :: (c51) :: (c52) :: (c53) :: (c54) :: (c55) :: (c56) :: (c57) :: (c58) :: (c59) :: (c60) :: (c61) :: (c62) :: (c63) :: (c64) :: (c65) :: (c66) :: (c67) :: (c68) :: (c69) :: (c70) :: (c71) :: (c72) :: (c73) :: (c74) :: (c75) :: (c76) :: (c77) :: (c78) :: (c79) :: (c80) :: (c81) :: (c82) :: (c83) :: (c84) :: (c85) :: (c86) :: (c87) :: (c88) :: (c89) :: (c90) :: (c91) :: (c92) :: (c93) :: (c94) :: (c95) :: (c96) :: (c97) :: (c98) :: (c99) :: (c100) :: (c101) :: (c102) :: (c103) :: (c104) :: (c105) :: (c106) :: (c107) :: (c108) :: (c109) :: (c110) :: (c111) :: (c112) :: (c113) :: (c114) :: (c115) :: (c116) :: (c117) :: (c118) :: (c119) :: (c120) :: (c121) :: (c122) :: (c123) :: (c124) :: (c125) :: (c126) :: (c127) :: (c128) :: (c129) :: (c130) :: (c131) :: (c132) :: (c133) :: (c134) :: (c135) :: (c136) :: (c137) :: (c138) :: (c139) :: (c140) :: (c141) :: (c142) :: (c143) :: (c144) :: (c145) :: (c146) :: (c147) :: (c148) :: (c149) :: (c150) :: (c151) :: (c152) :: (c153) :: (c154) :: (c155) :: (c156) :: (c157) :: (c158) :: (c159) :: (c160) :: (c161) :: (c162) :: (c163) :: (c164) :: (c165) :: (c166) :: (c167) :: (c168) :: (c169) :: (c170) :: (c171) :: (c172) :: (c173) :: (c174) :: (c175) :: (c176) :: (c177) :: (c178) :: (c179) :: (c180) :: (c181) :: (c182) :: (c183) :: (v184) :: (v185) :: (v186) :: (v187) :: (v188) :: (v189) :: (v190) :: (v191) :: (v192) :: (v193) :: (v194) :: (v195) :: (v196) :: (v197) :: (v198) :: (v199) :: (v200) :: (v201) :: (v202) :: (c203) :: (c204) :: (c205) :: (c206) :: (c207) :: (c208) :: (c209) :: (c210) :: (c211) :: (c212) :: (c213) :: []), []⟩ w') :
    Code.wp Tryd.prog (Code.loop body3) (Exit.inBlock 4 (Exit.then K0 (bodyPost Tryd.prog Tryd.f4 (fun e w' => e = .returned (.bool true) ∧ Below w.heap.size w w')))) ⟨List.toArray ((c0) :: (c1) :: (c2) :: (c3) :: (c4) :: (c5) :: (c6) :: (c7) :: (.slice q m c) :: (c9) :: (c10) :: (.pointer (some ⟨ga, 0, none⟩)) :: (c12) :: (c13) :: (c14) :: (c15) :: (c16) :: (c17) :: (c18) :: (c19) :: (c20) :: (c21) :: (c22) :: (c23) :: (c24) :: (c25) :: (c26) :: (c27) :: (.int .i64 0) :: (c29) :: (c30) :: (c31) :: (c32) :: (c33) :: (c34) :: (c35) :: (c36) :: (c37) :: (c38) :: (c39) :: (c40) :: (c41) :: (c42) :: (c43) :: (c44) :: (c45) :: (c46) :: (c47) :: (c48) :: (c49) :: (c50) :: (c51) :: (c52) :: (c53) :: (c54) :: (c55) :: (c56) :: (c57) :: (c58) :: (c59) :: (c60) :: (c61) :: (c62) :: (c63) :: (c64) :: (c65) :: (c66) :: (c67) :: (c68) :: (c69) :: (c70) :: (c71) :: (c72) :: (c73) :: (c74) :: (c75) :: (c76) :: (c77) :: (c78) :: (c79) :: (c80) :: (c81) :: (c82) :: (c83) :: (c84) :: (c85) :: (c86) :: (c87) :: (c88) :: (c89) :: (c90) :: (c91) :: (c92) :: (c93) :: (c94) :: (c95) :: (c96) :: (c97) :: (c98) :: (c99) :: (c100) :: (c101) :: (c102) :: (c103) :: (c104) :: (c105) :: (c106) :: (c107) :: (c108) :: (c109) :: (c110) :: (c111) :: (c112) :: (c113) :: (c114) :: (c115) :: (c116) :: (c117) :: (c118) :: (c119) :: (c120) :: (c121) :: (c122) :: (c123) :: (c124) :: (c125) :: (c126) :: (c127) :: (c128) :: (c129) :: (c130) :: (c131) :: (c132) :: (c133) :: (c134) :: (c135) :: (c136) :: (c137) :: (c138) :: (c139) :: (c140) :: (c141) :: (c142) :: (c143) :: (c144) :: (c145) :: (c146) :: (c147) :: (c148) :: (c149) :: (c150) :: (c151) :: (c152) :: (c153) :: (c154) :: (c155) :: (c156) :: (c157) :: (c158) :: (c159) :: (c160) :: (c161) :: (c162) :: (c163) :: (c164) :: (c165) :: (c166) :: (c167) :: (c168) :: (c169) :: (c170) :: (c171) :: (c172) :: (c173) :: (c174) :: (c175) :: (c176) :: (c177) :: (c178) :: (c179) :: (c180) :: (c181) :: (c182) :: (c183) :: (c184) :: (c185) :: (c186) :: (c187) :: (c188) :: (c189) :: (c190) :: (c191) :: (c192) :: (c193) :: (c194) :: (c195) :: (c196) :: (c197) :: (c198) :: (c199) :: (c200) :: (c201) :: (c202) :: (c203) :: (c204) :: (c205) :: (c206) :: (c207) :: (c208) :: (c209) :: (c210) :: (c211) :: (c212) :: (c213) :: []), []⟩ w10 := by
  have HX := Lib.hid hexit
  have HG := Lib.hid hHG
  have HB0 := Lib.hid hHB
  have HLn := Lib.hid hL
  have HS0 := Lib.hid hHS
  have HVe := Lib.hid hvl
  have HUp := Lib.hid hF
  have HA := Lib.hid hga
  have HD1 := Lib.hid (show PV.d ⟨k1, S1, ql1, nl1, cl1, qh1, nh1, ch1, qz1, nz1, cz1, d1⟩ = setV F from hd)
  have HBz := Lib.hid (Below.refl w10.heap.size w10)
  clear hexit hHG hHB hL hHS hvl hF hga hd
  conv => arg 2; arg 1; whnf
  go_loopw [28] (fun i wr => ∃ x : Nat, x ≤ m ∧ i = .int .i64 (x : Int) ∧ Hid (Below w10.heap.size w10 wr)) (fun i _ => m - (intOf i).toNat)
  case atStart => exact ⟨0, Nat.zero_le _, rfl, HBz⟩
  case round =>
    clear HBz
    obtain ⟨x, hx, rfl, HBz⟩ := hrel
    by_cases hlt : x < m
    · have t1 : decide ((x : Int) < (m : Int)) = true := decide_eq_true (by omega)
      have HB := Lib.hid (HB0.out.trans (HBz.out.mono HB0.out.size))
      have HV1 := Lib.hid (HA.out.keep HBz.out)
      obtain ⟨b, off, rfl, hbl, hcx⟩ := ss_word (HS0.out.keep HBz.out) x (by rw [HLn.out]; omega)
      obtain ⟨Tx, hT, hT2⟩ := str_of2 (wd L x)
      rw [hT2] at hcx
      have HIn := Lib.hid (show Tx.data.toList ∈ F by rw [hT]; exact HVe.out x hlt)
      have HC0 := Lib.hid (fun W (hW : Below wr.heap.size wr W) => (hW.cell (p := ⟨b, off + x, none⟩) hbl).trans hcx)
      have hx0 : (0 : Int) ≤ (x : Int) := by omega
      have hxn : (x : Int) < (m : Int) := by omega
      clear hT hT2 hbl hcx
      go_upto_region 28 with fail
      have CD := Lib.hid (fun (Y : World) (g : Nat) (hB : Below w.heap.size w Y) (hpv : PV.In Y ⟨k1, S1, ql1, nl1, cl1, qh1, nh1, ch1, qz1, nz1, cz1, d1⟩) (hss : StrT.Ss Y (some ⟨g, 0, none⟩) [(⟨#[115, 105, 115, 109, 101, 109, 98, 101, 114]⟩ : ByteArray).data.toList, (⟨#[107]⟩ : ByteArray).data.toList, (Tx : ByteArray).data.toList]) => (show Calls Tryd.prog 11 #[.agg #[.int .u8 k1, .string S1, .slice ql1 nl1 cl1, .slice qh1 nh1 ch1, .slice qz1 nz1 cz1], .slice (some ⟨g, 0, none⟩) 3 3] Y (DoN (setV (F)) (int 1) Y) from don_to (is_in HIn.out) (onR 2 (by decide) ⟨k1, S1, ql1, nl1, cl1, qh1, nh1, ch1, qz1, nz1, cz1, d1⟩ (F) ⟨#[115, 105, 115, 109, 101, 109, 98, 101, 114]⟩ ⟨#[107]⟩ [(Tx : ByteArray).data.toList] (some ⟨g, 0, none⟩) 3 3 Y hpv HD1.out (HG.out Y hB) rfl (Nat.le_refl _) (by decide) hss (by decide) (by decide) (tame2 HUp.out (Nat.le_refl 1)))))
      go_cut [30] (fun s wx => ∃ (qr : Option Addr) (cr : Nat), s = .slice qr 4 cr ∧ Hid (Below wr.heap.size wr wx) ∧ Hid (∀ W, Below wx.heap.size wx W → (convert 29 9 (.slice qr 4 cr)).run Tryd.prog W = .ok (.string ⟨#[58, 49, 13, 10]⟩) W))
      case first =>
        have hd0 : Below wr.heap.size wr wr.drew := (Below.refl _ _).drew
        have hd1 := Kit.below1 wr (.cells #[.int .u8 0, .string ⟨#[]⟩, .slice none 0 0, .slice none 0 0, .slice none 0 0] 26)
        have hu0 := HC0.out _ (Below.refl wr.heap.size wr)
        have hu1 := HC0.out _ hd1
        clear hd0 hd1
        have hr0 : VB _ ga ⟨k1, S1, ql1, nl1, cl1, qh1, nh1, ch1, qz1, nz1, cz1, d1⟩ := HV1.out
        obtain ⟨-, -, r00, r01, r02, r03, r04⟩ := hr0.room
        dsimp only at r00 r01 r02 r03 r04
        clear hr0
        have hr1 : VB _ ga ⟨k1, S1, ql1, nl1, cl1, qh1, nh1, ch1, qz1, nz1, cz1, d1⟩ := HV1.out.keep (Kit.below1 _ (.cells #[.int .u8 0, .string ⟨#[]⟩, .slice none 0 0, .slice none 0 0, .slice none 0 0] 26))
        obtain ⟨-, -, r10, r11, r12, r13, r14⟩ := hr1.room
        dsimp only at r10 r11 r12 r13 r14
        clear hr1
        have hr2 : VB _ ga ⟨k1, S1, ql1, nl1, cl1, qh1, nh1, ch1, qz1, nz1, cz1, d1⟩ := HV1.out.keep (Kit.below1 _ (.cells #[.string ⟨#[115, 105, 115, 109, 101, 109, 98, 101, 114]⟩, .string ⟨#[107]⟩, .string Tx] 9))
        obtain ⟨-, -, r20, r21, r22, r23, r24⟩ := hr2.room
        dsimp only at r20 r21 r22 r23 r24
        clear hr2
        have hr3 : VB _ ga ⟨k1, S1, ql1, nl1, cl1, qh1, nh1, ch1, qz1, nz1, cz1, d1⟩ := (HV1.out.keep (Kit.below1 _ (.cells #[.int .u8 0, .string ⟨#[]⟩, .slice none 0 0, .slice none 0 0, .slice none 0 0] 26))).keep (Kit.below1 _ (.cells #[.string ⟨#[115, 105, 115, 109, 101, 109, 98, 101, 114]⟩, .string ⟨#[107]⟩, .string Tx] 9))
        obtain ⟨-, -, r30, r31, r32, r33, r34⟩ := hr3.room
        dsimp only at r30 r31 r32 r33 r34
        clear hr3
        have hr4 : VB _ ga ⟨k1, S1, ql1, nl1, cl1, qh1, nh1, ch1, qz1, nz1, cz1, d1⟩ := (HV1.out.keep (Kit.below1 _ (.cells #[.string ⟨#[115, 105, 115, 109, 101, 109, 98, 101, 114]⟩, .string ⟨#[107]⟩, .string Tx] 9))).keep (Kit.below1 _ (.cells #[.int .u8 0, .string ⟨#[]⟩, .slice none 0 0, .slice none 0 0, .slice none 0 0] 26))
        obtain ⟨-, -, r40, r41, r42, r43, r44⟩ := hr4.room
        dsimp only at r40 r41 r42 r43 r44
        clear hr4
        have hY : ∀ Y, (Y = wr.alloc (.cells #[.string ⟨#[115, 105, 115, 109, 101, 109, 98, 101, 114]⟩, .string ⟨#[107]⟩, .string Tx] 9) ∨ Y = (wr.alloc (.cells #[.int .u8 0, .string ⟨#[]⟩, .slice none 0 0, .slice none 0 0, .slice none 0 0] 26)).alloc (.cells #[.string ⟨#[115, 105, 115, 109, 101, 109, 98, 101, 114]⟩, .string ⟨#[107]⟩, .string Tx] 9) ∨ Y = (wr.alloc (.cells #[.string ⟨#[115, 105, 115, 109, 101, 109, 98, 101, 114]⟩, .string ⟨#[107]⟩, .string Tx] 9)).alloc (.cells #[.int .u8 0, .string ⟨#[]⟩, .slice none 0 0, .slice none 0 0, .slice none 0 0] 26)) → Below wr.heap.size wr Y := fun Y h => by rcases h with rfl | rfl | rfl; exact (Kit.below1 wr (.cells #[.string ⟨#[115, 105, 115, 109, 101, 109, 98, 101, 114]⟩, .string ⟨#[107]⟩, .string Tx] 9)); exact ((Kit.below1 wr (.cells #[.int .u8 0, .string ⟨#[]⟩, .slice none 0 0, .slice none 0 0, .slice none 0 0] 26)).trans ((Kit.below1 _ (.cells #[.string ⟨#[115, 105, 115, 109, 101, 109, 98, 101, 114]⟩, .string ⟨#[107]⟩, .string Tx] 9)).mono (Below.size (Kit.below1 _ _)))); exact ((Kit.below1 wr (.cells #[.string ⟨#[115, 105, 115, 109, 101, 109, 98, 101, 114]⟩, .string ⟨#[107]⟩, .string Tx] 9)).trans ((Kit.below1 _ (.cells #[.int .u8 0, .string ⟨#[]⟩, .slice none 0 0, .slice none 0 0, .slice none 0 0] 26)).mono (Below.size (Kit.below1 _ _))))
        have HY := Lib.hid hY
        clear hY
        go_region_law (first
          | (go_simp; (with_reducible refine (CD.out _ _ (by first | exact HB.out.trans (Below.mono (HY.out _ (by first | exact Or.inl rfl | exact Or.inr (Or.inl rfl) | exact Or.inr (Or.inr rfl))) HB.out.size) | exact (HB.out.trans (Below.mono (HY.out _ (by first | exact Or.inl rfl | exact Or.inr (Or.inl rfl) | exact Or.inr (Or.inr rfl))) HB.out.size)).drew) (by first | exact (HV1.out.keep (HY.out _ (by first | exact Or.inl rfl | exact Or.inr (Or.inl rfl) | exact Or.inr (Or.inr rfl)))).pv | exact (HV1.out.keep ((HY.out _ (by first | exact Or.inl rfl | exact Or.inr (Or.inl rfl) | exact Or.inr (Or.inr rfl)))).drew).pv) (by first | exact ss3_at wr _ rfl ⟨#[115, 105, 115, 109, 101, 109, 98, 101, 114]⟩ ⟨#[107]⟩ Tx | exact ss3_at _ _ (by simp) ⟨#[115, 105, 115, 109, 101, 109, 98, 101, 114]⟩ ⟨#[107]⟩ Tx | exact StrT.Ss.keep (ss3_at wr _ rfl ⟨#[115, 105, 115, 109, 101, 109, 98, 101, 114]⟩ ⟨#[107]⟩ Tx) (Kit.below1 _ _) | exact StrT.Ss.keep (ss3_at wr _ rfl ⟨#[115, 105, 115, 109, 101, 109, 98, 101, 114]⟩ ⟨#[107]⟩ Tx) (Below.refl _ _).drew | exact StrT.Ss.keep (ss3_at _ _ (by simp) ⟨#[115, 105, 115, 109, 101, 109, 98, 101, 114]⟩ ⟨#[107]⟩ Tx) (Below.refl _ _).drew | exact StrT.Ss.keep (StrT.Ss.keep (ss3_at wr _ rfl ⟨#[115, 105, 115, 109, 101, 109, 98, 101, 114]⟩ ⟨#[107]⟩ Tx) (Kit.below1 _ _)) (Below.refl _ _).drew)).mono ?_); rintro e wq5 ⟨p9, vr, rfl, hI, hd, hn, hA, hb5⟩; dsimp only [PV.agg]
             obtain ⟨k9, S9, ql9, nl9, cl9, qh9, nh9, ch9, qz9, nz9, cz9, d9⟩ := p9
             dsimp only
             obtain ⟨q9, c9, rfl, -⟩ := ans_text hA 4 (by decide +kernel) ⟨#[58, 49, 13, 10]⟩ (by decide +kernel)
             have hb5' : Below wr.heap.size wr wq5 := by first | exact c_al (c_al hb5) | exact c_al hb5 | exact c_al (c_dr hb5) | exact c_al (c_al (c_dr hb5))
             have HW5 := Lib.hid hb5'
             have HL5 := Lib.hid hb5'.size
             have HE9 := Lib.hid (show PV.d ⟨k9, S9, ql9, nl9, cl9, qh9, nh9, ch9, qz9, nz9, cz9, d9⟩ = _ from hd)
             have HF9 := Lib.hid (show ∀ k, PV.at_ ⟨k9, S9, ql9, nl9, cl9, qh9, nh9, ch9, qz9, nz9, cz9, d9⟩ k → wr.heap.size ≤ k from fun k hk => Nat.le_trans (by simp; try omega) (hn k hk))
             first
               | (have hzc : VZ wq5 wr.heap.size := by first | exact vz_al (c_al hb5) | exact vz_al (c_al (c_dr hb5))
                  have HGt := Lib.hid (gov_five (w := wr) hzc hI (fun j hj => by have h1 := hn j hj; first | omega | (simp at h1; omega)) (Nat.le_refl _) HW5.out hA (by first | (simp; done) | (simp; omega)))
                  obtain ⟨⟨z0, z1, z2, z3, z4⟩, y0, y1, y2, y3, y4⟩ := vz_facts hzc
                  clear hzc)
               | (have hzc : VZ wq5 (wr.alloc (.cells #[.string ⟨#[115, 105, 115, 109, 101, 109, 98, 101, 114]⟩, .string ⟨#[107]⟩, .string Tx] 9)).heap.size := by first | exact vz_al hb5 | exact vz_al (c_dr hb5)
                  rw [show (wr.alloc (.cells #[.string ⟨#[115, 105, 115, 109, 101, 109, 98, 101, 114]⟩, .string ⟨#[107]⟩, .string Tx] 9)).heap.size = wr.heap.size + 1 by simp] at hzc
                  have HGt := Lib.hid (gov_five (w := wr) hzc hI (fun j hj => by have h1 := hn j hj; first | omega | (simp at h1; omega)) (Nat.le_succ _) HW5.out hA (by first | (simp; done) | (simp; omega)))
                  obtain ⟨⟨z0, z1, z2, z3, z4⟩, y0, y1, y2, y3, y4⟩ := vz_facts hzc
                  clear hzc)
               | (have HGt := Lib.hid (gov_new (w := wr) hI HW5.out hA))
             clear hI hd hn hA hb5 hb5'))
        all_goals
          go_wp2_with fail
          go_meet
          exact ⟨_, _, rfl, Lib.hid HGt.out.b, Lib.hid (ans_at HGt.out.a ⟨#[58, 49, 13, 10]⟩ (by decide +kernel))⟩
      case rest =>
      obtain ⟨q30, c30, rfl, hbn, HC30⟩ := hcut
      rename World => wy
      have HBz := Lib.hid (HBz.out.trans (hbn.out.mono HBz.out.size))
      have hc30 := HC30.out wy (Below.refl _ _)
      clear hbn CD HV1 HC30 HC0 HB HIn
      go_wp2_with fail
      go_roundw
      case rel => exact ⟨x + 1, by omega, by go_num, HBz⟩
      case measure => simp [intOf]; omega
    · obtain rfl : m = x := by omega
      have t1 : decide ((m : Int) < (m : Int)) = false := decide_eq_false (by omega)
      go_wp2_with fail
      exact HX.out _ _ _ _ _ _ _ _ _ _ _ _ _ _ _ _ _ _ _ _ _ _ _ _ HBz.out

end Go.Proofs.YtmdkegamfjkfbaaDoor.setsBack
