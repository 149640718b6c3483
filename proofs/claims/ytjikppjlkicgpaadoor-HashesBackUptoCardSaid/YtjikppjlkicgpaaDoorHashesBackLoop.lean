/-
  HashesBack: its loop: no other name has changed.
-/
import Derived.Test.YtjikppjlkicgpaaDoorHasLaws
import Derived.Test.YtjikppjlkicgpaaDoorHasFits
import Derived.Test.YtjikppjlkicgpaaDoorRefVals
import Derived.Deep.QuietTactic
import Derived.Deep.DeepCutAuto
import Derived.BigQuiet
import Derived.StillTailTactics
import Derived.Deep.RegionLaw
import Derived.Deep.RegionHeld
namespace Go.Proofs.YtjikppjlkicgpaaDoor.hashesBack
open Go.RowKit Kit StrT RowG BOrd ValT StoT ReplyT ReplyMath ValM BytesIn DoT Low LstT HasT NumL NumW NumMath HasM SaidT RefR DoV LawK HasL RefV
set_option linter.unusedVariables false
set_option maxRecDepth 100000


theorem beq_str (S T : ByteArray) (a b : List UInt8) (hS : S.data.toList = a) (hT : T.data.toList = b) : (S.toList == T.toList) = decide (a = b) := by
  rw [ByteArray.toList_eq, ByteArray.toList_eq, hS, hT, Bool.eq_iff_iff, beq_iff_eq, decide_eq_true_eq]
theorem other_set {H : List Pr} (k u m v : List UInt8) (hne : m ≠ k) (hm : getP H m = some v) : rowD 1 (setP H k u) [m] = (setP H k u, bulk v) := by
  show (setP H k u, gotR (getP (setP H k u) m)) = _
  rw [get_set_other _ _ _ hne, hm]
  rfl
theorem other_del {H : List Pr} (k u m v : List UInt8) (hne : m ≠ k) (hm : getP H m = some v) : rowD 1 (delP (setP H k u) [k, k]) [m] = (delP (setP H k u) [k, k], bulk v) := by
  show (delP (setP H k u) [k, k], gotR (getP (delP (setP H k u) [k, k]) m)) = _
  rw [get_del, if_neg (by simpa using hne), get_set_other _ _ _ hne, hm]
  rfl
def firstLoop : Code → Option Code
  | .loop c => some c
  | .seq a b => match firstLoop a with
    | some c => some c
    | none => firstLoop b
  | .block _ c => firstLoop c
  | .scope c => firstLoop c
  | .cond _ a b => match firstLoop a with
    | some c => some c
    | none => firstLoop b
  | _ => none
noncomputable def body : Code := ((Tryd.f4.body.bind firstLoop).getD .skip)

set_option maxHeartbeats 16000000 in
theorem loop_any (w w10 : World) (H G : List Pr) (Kn Sb : ByteArray) (g8 g2 g4 : Nat) (k8 : Int) (S8 : ByteArray) (ql8 : Option Addr) (nl8 cl8 : Nat) (qh8 : Option Addr) (nh8 ch8 : Nat) (qz8 : Option Addr) (nz8 cz8 : Nat) (d8 : V) (k2 : Int) (S2 : ByteArray) (ql2 : Option Addr) (nl2 cl2 : Nat) (qh2 : Option Addr) (nh2 ch2 : Nat) (qz2 : Option Addr) (nz2 cz2 : Nat) (d2 : V) (k4 : Int) (S4 : ByteArray) (ql4 : Option Addr) (nl4 cl4 : Nat) (qh4 : Option Addr) (nh4 ch4 : Nat) (qz4 : Option Addr) (nz4 cz4 : Nat) (d4 : V)
    (hHG : ∀ W, Below w.heap.size w W → Gd W) (hHB : Below w.heap.size w w10) (hHV8 : VB w10 g8 ⟨k8, S8, ql8, nl8, cl8, qh8, nh8, ch8, qz8, nz8, cz8, d8⟩) (hHV2 : VB w10 g2 ⟨k2, S2, ql2, nl2, cl2, qh2, nh2, ch2, qz2, nz2, cz2, d2⟩) (hHV4 : VB w10 g4 ⟨k4, S4, ql4, nl4, cl4, qh4, nh4, ch4, qz4, nz4, cz4, d4⟩) (hHD2 : d2 = hashV (setP H Kn.data.toList Sb.data.toList)) (hHD4 : d4 = hashV G)
    (hHPs : Rs prE w10 qh8 H) (hHE8 : nh8 = H.length) (hH8 : H.length ≤ 8) (hHU : Up H) (hHUb : Up (setP H Kn.data.toList Sb.data.toList)) (hHUg : Up G) (hHVv : ∀ x ∈ H, x.val.length ≤ 1048576) (hHVb : ∀ x ∈ setP H Kn.data.toList Sb.data.toList, x.val.length ≤ 1048576) (hHVg : ∀ x ∈ G, x.val.length ≤ 1048576) (hHGe : G = delP (setP H Kn.data.toList Sb.data.toList) [Kn.data.toList, Kn.data.toList])
    {c0 c1 c2 c3 c4 c5 c6 c7 c10 c11 c12 c13 c15 c16 c17 c19 c20 c21 c22 c23 c25 c26 c27 c28 c29 c30 c31 c32 c33 c34 c35 c36 c37 c38 c39 c40 c41 c42 c43 c44 c45 c46 c47 c48 c49 c50 c51 c52 c53 c54 c55 c56 c57 c58 c59 c60 c61 c62 c63 c64 c65 c66 c67 c68 c69 c70 c71 c72 c73 c74 c75 c76 c77 c78 c79 c80 c81 c82 c83 c84 c85 c86 c87 c88 c89 c90 c91 c92 c93 c94 c95 c96 c97 c98 c99 c100 c101 c102 c103 c104 c105 c106 c107 c108 c109 c110 c111 c112 c113 c114 c115 c116 c117 c118 c119 c120 c121 c122 c123 c124 c125 c126 c127 c128 c129 c130 c131 c132 c133 c134 c135 c136 c137 c138 c139 c140 c141 c142 c143 c144 c145 c146 c147 c148 c149 c150 c151 c152 c153 c154 c155 c156 c157 c158 c159 c160 c161 c162 c163 c164 c165 c166 c167 c168 c169 c170 c171 c172 c173 c174 c175 c176 c177 c178 c179 c180 c181 c182 c183 c184 c185 c186 c187 c188 c189 c190 c191 c192 c193 c194 c195 c196 : Value} (K0 : Act → World → Prop) (hexit : ∀ (v6 v24 v25 v26 v27 v28 v139 v140 v141 v142 v143 v144 v145 v146 v147 v148 v149 v150 v151 v152 v153 v154 v155 v156 v157 v158 v159 v160 v161 v162 v163 v164 v165 v166 v167 v168 v169 v170 v171 v172 v173 v174 v175 v176 v177 v178 v179 v180 v181 v182 v183 v184 v185 v186 v187 v188 v189 v190 v191 v192 v193 v194 v195 : Value) (w' : World), Below w.heap.size w w' → K0 ⟨List.toArray ((c0) :: (c1) :: (c2) :: (c3) :: (c4) :: (c5) :: (v6) :: (c7) :: (.pointer (some ⟨g8, 0, none⟩)) :: (.string Kn) :: (c10) :: (c11) :: (c12) :: (c13) :: (.pointer (some ⟨g2, 0, none⟩)) :: (c15) :: (c16) :: (c17) :: (.pointer (some ⟨g4, 0, none⟩)) :: (c19) :: (c20) :: (c21) :: (c22) :: (c23) :: (v24) :: (v25) :: (v26) :: (v27) :: (v28) :: (c29) :: (c30) :: (c31) :: (c32) :: (c33) :: (c34) :: (c35) :: (c36) :: (c37) :: (c38) :: (c39) :: (c40) :: (c41) :: (c42) :: (c43) :: (c44) :: (c45) :: (c46) :: (c47) :: (c48) :: (c49) :: (c50) :: (c51) :: (c52) :: (c53) :: (c54) :: (c55) :: (c56) :: (c57) :: (c58) :: (c59) :: (c60) :: (c61) :: (c62) :: (c63) :: (c64) :: (c65) :: (c66) :: (c67) :: (c68) :: (c69) :: (c70) :: (c71) :: (c72) :: (c73) :: (c74) :: (c75) :: (c76) :: (c77) :: (c78) :: (c79) :: (c80) :: (c81) :: (c82) :: (c83) :: (c84) :: (c85) :: (c86) :: (c87) :: (c88) :: (c89) :: (c90) :: (c91) :: (c92) :: (c93) :: (c94) :: (c95) :: (c96) :: (c97) :: (c98) :: (c99) :: (c100) :: (c101) :: (c102) :: (c103) :: (c104) :: (c105) :: (c106) :: (c107) :: (c108) :: (c109) :: (c110) :: (c111) :: (c112) :: (c113) :: (c114) :: (c115) :: (c116) :: (c117) :: (c118) :: (c119) :: (c120) :: (c121) :: (c122) :: (c123) :: (c124) :: (c125) :: (c126) :: (c127) :: (c128) :: (c129) :: (c130) :: (c131) :: (c132) :: (c133) :: (c134) :: (c135) :: (c136) :: (c137) :: (c138) :: (v139) :: (v140) :: (v141) :: (v142) :: (v143) :: (v144) :: (v145) :: (v146) :: (v147) :: (v148) :: (v149) :: (v150) :: (v151) :: (v152) :: (v153) :: (v154) :: (v155) :: (v156) :: (v157) :: (v158) :: (v159) :: (v160) :: (v161) :: (v162) :: (v163) :: (v164) :: (v165) :: (v166) :: (v167) :: (v168) :: (v169) :: (v170) :: (v171) :: (v172) :: (v173) :: (v174) :: (v175) :: (v176) :: (v177) :: (v178) :: (v179) :: (v180) :: (v181) :: (v182) :: (v183) :: (v184) :: (v185) :: (v186) :: (v187) :: (v188) :: (v189) :: (v190) :: (v191) :: (v192) :: (v193) :: (v194) :: (v195) :: (c196) :: []), []⟩ w') :
    Code.wp Tryd.prog (Code.loop body) (Exit.inBlock 0 (Exit.then K0 (bodyPost Tryd.prog Tryd.f4 (fun e w' => e = .returned (.bool true) ∧ Below w.heap.size w w')))) ⟨List.toArray ((c0) :: (c1) :: (c2) :: (c3) :: (c4) :: (c5) :: (c6) :: (c7) :: (.pointer (some ⟨g8, 0, none⟩)) :: (.string Kn) :: (c10) :: (c11) :: (c12) :: (c13) :: (.pointer (some ⟨g2, 0, none⟩)) :: (c15) :: (c16) :: (c17) :: (.pointer (some ⟨g4, 0, none⟩)) :: (c19) :: (c20) :: (c21) :: (c22) :: (c23) :: (.int .i64 0) :: (c25) :: (c26) :: (c27) :: (c28) :: (c29) :: (c30) :: (c31) :: (c32) :: (c33) :: (c34) :: (c35) :: (c36) :: (c37) :: (c38) :: (c39) :: (c40) :: (c41) :: (c42) :: (c43) :: (c44) :: (c45) :: (c46) :: (c47) :: (c48) :: (c49) :: (c50) :: (c51) :: (c52) :: (c53) :: (c54) :: (c55) :: (c56) :: (c57) :: (c58) :: (c59) :: (c60) :: (c61) :: (c62) :: (c63) :: (c64) :: (c65) :: (c66) :: (c67) :: (c68) :: (c69) :: (c70) :: (c71) :: (c72) :: (c73) :: (c74) :: (c75) :: (c76) :: (c77) :: (c78) :: (c79) :: (c80) :: (c81) :: (c82) :: (c83) :: (c84) :: (c85) :: (c86) :: (c87) :: (c88) :: (c89) :: (c90) :: (c91) :: (c92) :: (c93) :: (c94) :: (c95) :: (c96) :: (c97) :: (c98) :: (c99) :: (c100) :: (c101) :: (c102) :: (c103) :: (c104) :: (c105) :: (c106) :: (c107) :: (c108) :: (c109) :: (c110) :: (c111) :: (c112) :: (c113) :: (c114) :: (c115) :: (c116) :: (c117) :: (c118) :: (c119) :: (c120) :: (c121) :: (c122) :: (c123) :: (c124) :: (c125) :: (c126) :: (c127) :: (c128) :: (c129) :: (c130) :: (c131) :: (c132) :: (c133) :: (c134) :: (c135) :: (c136) :: (c137) :: (c138) :: (c139) :: (c140) :: (c141) :: (c142) :: (c143) :: (c144) :: (c145) :: (c146) :: (c147) :: (c148) :: (c149) :: (c150) :: (c151) :: (c152) :: (c153) :: (c154) :: (c155) :: (c156) :: (c157) :: (c158) :: (c159) :: (c160) :: (c161) :: (c162) :: (c163) :: (c164) :: (c165) :: (c166) :: (c167) :: (c168) :: (c169) :: (c170) :: (c171) :: (c172) :: (c173) :: (c174) :: (c175) :: (c176) :: (c177) :: (c178) :: (c179) :: (c180) :: (c181) :: (c182) :: (c183) :: (c184) :: (c185) :: (c186) :: (c187) :: (c188) :: (c189) :: (c190) :: (c191) :: (c192) :: (c193) :: (c194) :: (c195) :: (c196) :: []), []⟩ w10 := by
  have HX := Lib.hid hexit
  have HG := Lib.hid hHG
  have HB := Lib.hid hHB
  have HV8 := Lib.hid hHV8
  have HV2 := Lib.hid hHV2
  have HV4 := Lib.hid hHV4
  have HD2 := Lib.hid hHD2
  have HD4 := Lib.hid hHD4
  have HPs := Lib.hid hHPs
  have HE8 := Lib.hid hHE8
  have H8 := Lib.hid hH8
  have HU := Lib.hid hHU
  have HUb := Lib.hid hHUb
  have HUg := Lib.hid hHUg
  have HVv := Lib.hid hHVv
  have HVb := Lib.hid hHVb
  have HVg := Lib.hid hHVg
  have HGe := Lib.hid hHGe
  have HBz := Lib.hid (Below.refl w10.heap.size w10)
  clear hexit hHG hHB hHV8 hHV2 hHV4 hHD2 hHD4 hHPs hHE8 hH8 hHU hHUb hHUg hHVv hHVb hHVg hHGe
  have hn8 : nh8 ≤ 8 := by rw [HE8.out]; exact H8.out
  have hn8i : (nh8 : Int) ≤ 8 := by omega
  conv => arg 2; arg 1; whnf
  try simp only [List.size_toArray, List.length_cons, List.length_nil, Nat.reduceAdd, Nat.reduceSub, Array.replicate_succ, Array.replicate_zero, List.push_toArray, List.append_toArray, List.nil_append, List.cons_append]
  go_loopw [24] (fun i wr => ∃ x : Nat, x ≤ nh8 ∧ i = .int .i64 (x : Int) ∧ Hid (Below w10.heap.size w10 wr)) (fun i _ => nh8 - (intOf i).toNat)
  case atStart => exact ⟨0, Nat.zero_le _, rfl, HBz⟩
  case round =>
    clear HBz
    obtain ⟨x, hx, rfl, HBz⟩ := hrel
    have HB0 := HB
    have HV8 := Lib.hid (HV8.out.keep HBz.out)
    have HB := Lib.hid (HB0.out.trans (HBz.out.mono HB0.out.size))
    obtain ⟨-, -, ra0, ra1, ra2, ra3, ra4⟩ := HV8.out.room
    dsimp only at ra0 ra1 ra2 ra3 ra4
    by_cases hlt : x < nh8
    · have t1 : decide ((x : Int) < (nh8 : Int)) = true := decide_eq_true (by omega)
      have hx0 : (0 : Int) ≤ (x : Int) := by omega
      have hxn : (x : Int) < (nh8 : Int) := by omega
      have hxH : x < H.length := by rw [← HE8.out]; exact hlt
      obtain ⟨b, off, rfl, hbl, hc0, hc1⟩ := pr_at (HPs.out.keep HBz.out) x hxH
      have hgx := get_of HU.out (List.getElem_mem hxH)
      have hvx := HVv.out _ (List.getElem_mem hxH)
      obtain ⟨P, hP⟩ : ∃ P, P = H[x] := ⟨_, rfl⟩
      rw [← hP] at hc0 hc1 hgx hvx
      obtain ⟨pn, pv⟩ := P
      dsimp only at hc0 hc1 hgx hvx
      obtain ⟨T, hT⟩ : ∃ T : ByteArray, T = ⟨pn.toArray⟩ := ⟨_, rfl⟩
      obtain ⟨V, hV⟩ : ∃ V : ByteArray, V = ⟨pv.toArray⟩ := ⟨_, rfl⟩
      rw [← hT] at hc0
      rw [← hV] at hc1
      have HT := Lib.hid (show T.data.toList = pn by rw [hT])
      have HVe := Lib.hid (show V.data.toList = pv by rw [hV])
      have HC0 := Lib.hid (fun W (hW : Below wr.heap.size wr W) => (hW.cell (p := ⟨b, off + x * 2, none⟩) hbl).trans hc0)
      have HC1 := Lib.hid (fun W (hW : Below wr.heap.size wr W) => (hW.cell (p := ⟨b, off + x * 2 + 1, none⟩) hbl).trans hc1)
      have HGx := Lib.hid (show getP H T.data.toList = some V.data.toList by rw [HT.out, HVe.out]; exact hgx)
      have HVz := Lib.hid (show V.size ≤ 1048576 by rw [← str_len, HVe.out]; exact hvx)
      clear hT hV hP hgx hvx hbl hxH
      by_cases hk : T = Kn
      · have tk : (T.toList == Kn.toList) = true := by rw [beq_str T Kn T.data.toList Kn.data.toList rfl rfl]; exact decide_eq_true (by rw [hk])
        clear hk HT HVe HC0 HC1 HGx HVz
        go_wp2_with fail
        go_roundw
        case rel => exact ⟨x + 1, by omega, by go_num, HBz⟩
        case measure => simp [intOf]; omega
      · have hne : T.data.toList ≠ Kn.data.toList := fun e => hk (same_bytes e)
        have tk : (T.toList == Kn.toList) = false := by rw [beq_str T Kn T.data.toList Kn.data.toList rfl rfl]; exact decide_eq_false hne
        have HNe := Lib.hid hne
        clear hne hk
        obtain ⟨NV, HNV⟩ : ∃ NR, Hid ((bulk V.data.toList).length = NR) := ⟨_, Lib.hid rfl⟩
        obtain ⟨XV, HXV⟩ : ∃ XR : ByteArray, Hid (XR.data.toList = bulk V.data.toList) := ⟨⟨(bulk V.data.toList).toArray⟩, Lib.hid rfl⟩
        have HV2 := Lib.hid (HV2.out.keep HBz.out)
        have HV4 := Lib.hid (HV4.out.keep HBz.out)
        go_upto_region 18 with fail
        clear ra0 ra1 ra2 ra3 ra4
        have CD := Lib.hid (fun (Y : World) (g : Nat) (hB : Below w.heap.size w Y) (hpv : PV.In Y ⟨k2, S2, ql2, nl2, cl2, qh2, nh2, ch2, qz2, nz2, cz2, d2⟩) (hss : StrT.Ss Y (some ⟨g, 0, none⟩) [(⟨#[104, 103, 101, 116]⟩ : ByteArray).data.toList, (⟨#[107]⟩ : ByteArray).data.toList, (T : ByteArray).data.toList]) => (show Calls Tryd.prog 11 #[.agg #[.int .u8 k2, .string S2, .slice ql2 nl2 cl2, .slice qh2 nh2 ch2, .slice qz2 nz2 cz2], .slice (some ⟨g, 0, none⟩) 3 3] Y (DoN (hashV (setP H Kn.data.toList Sb.data.toList)) (bulk V.data.toList) Y) from don_to (other_set _ _ _ _ HNe.out HGx.out) (onR 1 (by decide) ⟨k2, S2, ql2, nl2, cl2, qh2, nh2, ch2, qz2, nz2, cz2, d2⟩ (setP H Kn.data.toList Sb.data.toList) ⟨#[104, 103, 101, 116]⟩ ⟨#[107]⟩ [(T : ByteArray).data.toList] (some ⟨g, 0, none⟩) 3 3 Y hpv HD2.out (HG.out Y hB) rfl (Nat.le_refl _) (by decide) hss (by decide) (by decide) (tame1 HUb.out (Nat.le_refl 1) HVb.out))))
        go_cut [26] (fun s wx => ∃ (qr : Option Addr) (cr : Nat), s = .slice qr NV cr ∧ Hid (Below wr.heap.size wr wx) ∧ Hid (∀ W, Below wx.heap.size wx W → (convert 29 9 (.slice qr NV cr)).run Tryd.prog W = .ok (.string XV) W))
        case first =>
          have hd0 : Below wr.heap.size wr wr.drew := (Below.refl _ _).drew
          have hd1 := Kit.below1 wr (.cells #[.int .u8 0, .string ⟨#[]⟩, .slice none 0 0, .slice none 0 0, .slice none 0 0] 26)
          have hu0 := HC0.out _ (Below.refl wr.heap.size wr)
          have hu1 := HC0.out _ hd1
          clear hd0 hd1
          have hr0 : VB _ g2 ⟨k2, S2, ql2, nl2, cl2, qh2, nh2, ch2, qz2, nz2, cz2, d2⟩ := HV2.out
          obtain ⟨-, -, r00, r01, r02, r03, r04⟩ := hr0.room
          dsimp only at r00 r01 r02 r03 r04
          clear hr0
          have hr1 : VB _ g2 ⟨k2, S2, ql2, nl2, cl2, qh2, nh2, ch2, qz2, nz2, cz2, d2⟩ := HV2.out.keep (Kit.below1 _ (.cells #[.int .u8 0, .string ⟨#[]⟩, .slice none 0 0, .slice none 0 0, .slice none 0 0] 26))
          obtain ⟨-, -, r10, r11, r12, r13, r14⟩ := hr1.room
          dsimp only at r10 r11 r12 r13 r14
          clear hr1
          have hr2 : VB _ g2 ⟨k2, S2, ql2, nl2, cl2, qh2, nh2, ch2, qz2, nz2, cz2, d2⟩ := HV2.out.keep (Kit.below1 _ (.cells #[.string ⟨#[104, 103, 101, 116]⟩, .string ⟨#[107]⟩, .string T] 9))
          obtain ⟨-, -, r20, r21, r22, r23, r24⟩ := hr2.room
          dsimp only at r20 r21 r22 r23 r24
          clear hr2
          have hr3 : VB _ g2 ⟨k2, S2, ql2, nl2, cl2, qh2, nh2, ch2, qz2, nz2, cz2, d2⟩ := (HV2.out.keep (Kit.below1 _ (.cells #[.int .u8 0, .string ⟨#[]⟩, .slice none 0 0, .slice none 0 0, .slice none 0 0] 26))).keep (Kit.below1 _ (.cells #[.string ⟨#[104, 103, 101, 116]⟩, .string ⟨#[107]⟩, .string T] 9))
          obtain ⟨-, -, r30, r31, r32, r33, r34⟩ := hr3.room
          dsimp only at r30 r31 r32 r33 r34
          clear hr3
          have hr4 : VB _ g2 ⟨k2, S2, ql2, nl2, cl2, qh2, nh2, ch2, qz2, nz2, cz2, d2⟩ := (HV2.out.keep (Kit.below1 _ (.cells #[.string ⟨#[104, 103, 101, 116]⟩, .string ⟨#[107]⟩, .string T] 9))).keep (Kit.below1 _ (.cells #[.int .u8 0, .string ⟨#[]⟩, .slice none 0 0, .slice none 0 0, .slice none 0 0] 26))
          obtain ⟨-, -, r40, r41, r42, r43, r44⟩ := hr4.room
          dsimp only at r40 r41 r42 r43 r44
          clear hr4
          have hr5 : VB _ g8 ⟨k8, S8, ql8, nl8, cl8, (some ⟨b, off, none⟩), nh8, ch8, qz8, nz8, cz8, d8⟩ := HV8.out
          obtain ⟨-, -, r50, r51, r52, r53, r54⟩ := hr5.room
          dsimp only at r50 r51 r52 r53 r54
          clear hr5
          have hr6 : VB _ g8 ⟨k8, S8, ql8, nl8, cl8, (some ⟨b, off, none⟩), nh8, ch8, qz8, nz8, cz8, d8⟩ := HV8.out.keep (Kit.below1 _ (.cells #[.int .u8 0, .string ⟨#[]⟩, .slice none 0 0, .slice none 0 0, .slice none 0 0] 26))
          obtain ⟨-, -, r60, r61, r62, r63, r64⟩ := hr6.room
          dsimp only at r60 r61 r62 r63 r64
          clear hr6
          have hY : ∀ Y, (Y = wr.alloc (.cells #[.string ⟨#[104, 103, 101, 116]⟩, .string ⟨#[107]⟩, .string T] 9) ∨ Y = (wr.alloc (.cells #[.int .u8 0, .string ⟨#[]⟩, .slice none 0 0, .slice none 0 0, .slice none 0 0] 26)).alloc (.cells #[.string ⟨#[104, 103, 101, 116]⟩, .string ⟨#[107]⟩, .string T] 9) ∨ Y = (wr.alloc (.cells #[.string ⟨#[104, 103, 101, 116]⟩, .string ⟨#[107]⟩, .string T] 9)).alloc (.cells #[.int .u8 0, .string ⟨#[]⟩, .slice none 0 0, .slice none 0 0, .slice none 0 0] 26)) → Below wr.heap.size wr Y := fun Y h => by rcases h with rfl | rfl | rfl; exact (Kit.below1 wr (.cells #[.string ⟨#[104, 103, 101, 116]⟩, .string ⟨#[107]⟩, .string T] 9)); exact ((Kit.below1 wr (.cells #[.int .u8 0, .string ⟨#[]⟩, .slice none 0 0, .slice none 0 0, .slice none 0 0] 26)).trans ((Kit.below1 _ (.cells #[.string ⟨#[104, 103, 101, 116]⟩, .string ⟨#[107]⟩, .string T] 9)).mono (Below.size (Kit.below1 _ _)))); exact ((Kit.below1 wr (.cells #[.string ⟨#[104, 103, 101, 116]⟩, .string ⟨#[107]⟩, .string T] 9)).trans ((Kit.below1 _ (.cells #[.int .u8 0, .string ⟨#[]⟩, .slice none 0 0, .slice none 0 0, .slice none 0 0] 26)).mono (Below.size (Kit.below1 _ _))))
          have HY := Lib.hid hY
          clear hY
          go_region_law (first
            | (go_simp; (with_reducible refine (CD.out _ _ (by first | exact HB.out.trans (Below.mono (HY.out _ (by first | exact Or.inl rfl | exact Or.inr (Or.inl rfl) | exact Or.inr (Or.inr rfl))) HB.out.size) | exact (HB.out.trans (Below.mono (HY.out _ (by first | exact Or.inl rfl | exact Or.inr (Or.inl rfl) | exact Or.inr (Or.inr rfl))) HB.out.size)).drew) (by first | exact (HV2.out.keep (HY.out _ (by first | exact Or.inl rfl | exact Or.inr (Or.inl rfl) | exact Or.inr (Or.inr rfl)))).pv | exact (HV2.out.keep ((HY.out _ (by first | exact Or.inl rfl | exact Or.inr (Or.inl rfl) | exact Or.inr (Or.inr rfl)))).drew).pv) (by first | exact ss3_at wr _ rfl ⟨#[104, 103, 101, 116]⟩ ⟨#[107]⟩ T | exact ss3_at _ _ (by simp) ⟨#[104, 103, 101, 116]⟩ ⟨#[107]⟩ T | exact StrT.Ss.keep (ss3_at wr _ rfl ⟨#[104, 103, 101, 116]⟩ ⟨#[107]⟩ T) (Kit.below1 _ _) | exact StrT.Ss.keep (ss3_at wr _ rfl ⟨#[104, 103, 101, 116]⟩ ⟨#[107]⟩ T) (Below.refl _ _).drew | exact StrT.Ss.keep (ss3_at _ _ (by simp) ⟨#[104, 103, 101, 116]⟩ ⟨#[107]⟩ T) (Below.refl _ _).drew | exact StrT.Ss.keep (StrT.Ss.keep (ss3_at wr _ rfl ⟨#[104, 103, 101, 116]⟩ ⟨#[107]⟩ T) (Kit.below1 _ _)) (Below.refl _ _).drew)).mono ?_); rintro e wq5 ⟨p9, vr, rfl, hI, hd, hn, hA, hb5⟩; dsimp only [PV.agg]
               obtain ⟨k9, S9, ql9, nl9, cl9, qh9, nh9, ch9, qz9, nz9, cz9, d9⟩ := p9
               dsimp only
               obtain ⟨q9, c9, rfl, -⟩ := ans_text hA NV HNV.out XV HXV.out
               have hb5' : Below wr.heap.size wr wq5 := by first | exact c_al (c_al hb5) | exact c_al hb5 | exact c_al (c_dr hb5) | exact c_al (c_al (c_dr hb5))
               have HW5 := Lib.hid hb5'
               have HL5 := Lib.hid hb5'.size
               have HE9 := Lib.hid (show PV.d ⟨k9, S9, ql9, nl9, cl9, qh9, nh9, ch9, qz9, nz9, cz9, d9⟩ = _ from hd)
               have HF9 := Lib.hid (show ∀ k, PV.at_ ⟨k9, S9, ql9, nl9, cl9, qh9, nh9, ch9, qz9, nz9, cz9, d9⟩ k → wr.heap.size ≤ k from fun k hk => Nat.le_trans (by simp; try omega) (hn k hk))
               first
                 | (have hzc : VZ wq5 wr.heap.size := by first | exact vz_al (c_al hb5) | exact vz_al (c_al (c_dr hb5))
                    have HGt := Lib.hid (gov_five (w := wr) hzc hI (fun j hj => by have h1 := hn j hj; first | omega | (simp at h1; omega)) (Nat.le_refl _) HW5.out hA (by first | (simp; done) | (simp; omega)))
                    obtain ⟨⟨z0, z1, z2, z3, z4⟩, y0, y1, y2, y3, y4⟩ := vz_facts hzc
                    clear hzc)
                 | (have hzc : VZ wq5 (wr.alloc (.cells #[.string ⟨#[104, 103, 101, 116]⟩, .string ⟨#[107]⟩, .string T] 9)).heap.size := by first | exact vz_al hb5 | exact vz_al (c_dr hb5)
                    rw [show (wr.alloc (.cells #[.string ⟨#[104, 103, 101, 116]⟩, .string ⟨#[107]⟩, .string T] 9)).heap.size = wr.heap.size + 1 by simp] at hzc
                    have HGt := Lib.hid (gov_five (w := wr) hzc hI (fun j hj => by have h1 := hn j hj; first | omega | (simp at h1; omega)) (Nat.le_succ _) HW5.out hA (by first | (simp; done) | (simp; omega)))
                    obtain ⟨⟨z0, z1, z2, z3, z4⟩, y0, y1, y2, y3, y4⟩ := vz_facts hzc
                    clear hzc)
                 | (have HGt := Lib.hid (gov_new (w := wr) hI HW5.out hA))
               clear hI hd hn hA hb5 hb5'))
          all_goals
            go_wp2_with fail
            go_meet
            exact ⟨_, _, rfl, Lib.hid HGt.out.b, Lib.hid (ans_at HGt.out.a XV HXV.out)⟩
        case rest =>
        obtain ⟨q26, c26, rfl, hbn, HC26⟩ := hcut
        rename World => wy
        have HV8 := Lib.hid (HV8.out.keep hbn.out)
        have HV4 := Lib.hid (HV4.out.keep hbn.out)
        have HB := Lib.hid (HB.out.trans (hbn.out.mono HB.out.size))
        have HBz := Lib.hid (HBz.out.trans (hbn.out.mono HBz.out.size))
        have HC0 := Lib.hid (fun W hW => HC0.out W (hbn.out.trans (Below.mono hW hbn.out.size)))
        have HC1 := Lib.hid (fun W hW => HC1.out W (hbn.out.trans (Below.mono hW hbn.out.size)))
        clear hbn CD HV2 hc0 hc1 HB0
        go_upto_region 19 with fail
        have CD := Lib.hid (fun (Y : World) (g : Nat) (hB : Below w.heap.size w Y) (hpv : PV.In Y ⟨k4, S4, ql4, nl4, cl4, qh4, nh4, ch4, qz4, nz4, cz4, d4⟩) (hss : StrT.Ss Y (some ⟨g, 0, none⟩) [(⟨#[104, 103, 101, 116]⟩ : ByteArray).data.toList, (⟨#[107]⟩ : ByteArray).data.toList, (T : ByteArray).data.toList]) => (show Calls Tryd.prog 11 #[.agg #[.int .u8 k4, .string S4, .slice ql4 nl4 cl4, .slice qh4 nh4 ch4, .slice qz4 nz4 cz4], .slice (some ⟨g, 0, none⟩) 3 3] Y (DoN (hashV (G)) (bulk V.data.toList) Y) from don_to (by rw [HGe.out]; exact other_del _ _ _ _ HNe.out HGx.out) (onR 1 (by decide) ⟨k4, S4, ql4, nl4, cl4, qh4, nh4, ch4, qz4, nz4, cz4, d4⟩ (G) ⟨#[104, 103, 101, 116]⟩ ⟨#[107]⟩ [(T : ByteArray).data.toList] (some ⟨g, 0, none⟩) 3 3 Y hpv HD4.out (HG.out Y hB) rfl (Nat.le_refl _) (by decide) hss (by decide) (by decide) (tame1 HUg.out (Nat.le_refl 1) HVg.out))))
        go_cut [28] (fun s wx => ∃ (qr : Option Addr) (cr : Nat), s = .slice qr NV cr ∧ Hid (Below wy.heap.size wy wx) ∧ Hid (∀ W, Below wx.heap.size wx W → (convert 29 9 (.slice qr NV cr)).run Tryd.prog W = .ok (.string XV) W))
        case first =>
          have hd0 : Below wy.heap.size wy wy.drew := (Below.refl _ _).drew
          have hd1 := Kit.below1 wy (.cells #[.int .u8 0, .string ⟨#[]⟩, .slice none 0 0, .slice none 0 0, .slice none 0 0] 26)
          have hu0 := HC0.out _ (Below.refl wy.heap.size wy)
          have hu1 := HC0.out _ hd1
          clear hd0 hd1
          have hr0 : VB _ g4 ⟨k4, S4, ql4, nl4, cl4, qh4, nh4, ch4, qz4, nz4, cz4, d4⟩ := HV4.out
          obtain ⟨-, -, r00, r01, r02, r03, r04⟩ := hr0.room
          dsimp only at r00 r01 r02 r03 r04
          clear hr0
          have hr1 : VB _ g4 ⟨k4, S4, ql4, nl4, cl4, qh4, nh4, ch4, qz4, nz4, cz4, d4⟩ := HV4.out.keep (Kit.below1 _ (.cells #[.int .u8 0, .string ⟨#[]⟩, .slice none 0 0, .slice none 0 0, .slice none 0 0] 26))
          obtain ⟨-, -, r10, r11, r12, r13, r14⟩ := hr1.room
          dsimp only at r10 r11 r12 r13 r14
          clear hr1
          have hr2 : VB _ g4 ⟨k4, S4, ql4, nl4, cl4, qh4, nh4, ch4, qz4, nz4, cz4, d4⟩ := HV4.out.keep (Kit.below1 _ (.cells #[.string ⟨#[104, 103, 101, 116]⟩, .string ⟨#[107]⟩, .string T] 9))
          obtain ⟨-, -, r20, r21, r22, r23, r24⟩ := hr2.room
          dsimp only at r20 r21 r22 r23 r24
          clear hr2
          have hr3 : VB _ g4 ⟨k4, S4, ql4, nl4, cl4, qh4, nh4, ch4, qz4, nz4, cz4, d4⟩ := (HV4.out.keep (Kit.below1 _ (.cells #[.int .u8 0, .string ⟨#[]⟩, .slice none 0 0, .slice none 0 0, .slice none 0 0] 26))).keep (Kit.below1 _ (.cells #[.string ⟨#[104, 103, 101, 116]⟩, .string ⟨#[107]⟩, .string T] 9))
          obtain ⟨-, -, r30, r31, r32, r33, r34⟩ := hr3.room
          dsimp only at r30 r31 r32 r33 r34
          clear hr3
          have hr4 : VB _ g4 ⟨k4, S4, ql4, nl4, cl4, qh4, nh4, ch4, qz4, nz4, cz4, d4⟩ := (HV4.out.keep (Kit.below1 _ (.cells #[.string ⟨#[104, 103, 101, 116]⟩, .string ⟨#[107]⟩, .string T] 9))).keep (Kit.below1 _ (.cells #[.int .u8 0, .string ⟨#[]⟩, .slice none 0 0, .slice none 0 0, .slice none 0 0] 26))
          obtain ⟨-, -, r40, r41, r42, r43, r44⟩ := hr4.room
          dsimp only at r40 r41 r42 r43 r44
          clear hr4
          have hr5 : VB _ g8 ⟨k8, S8, ql8, nl8, cl8, (some ⟨b, off, none⟩), nh8, ch8, qz8, nz8, cz8, d8⟩ := HV8.out
          obtain ⟨-, -, r50, r51, r52, r53, r54⟩ := hr5.room
          dsimp only at r50 r51 r52 r53 r54
          clear hr5
          have hr6 : VB _ g8 ⟨k8, S8, ql8, nl8, cl8, (some ⟨b, off, none⟩), nh8, ch8, qz8, nz8, cz8, d8⟩ := HV8.out.keep (Kit.below1 _ (.cells #[.int .u8 0, .string ⟨#[]⟩, .slice none 0 0, .slice none 0 0, .slice none 0 0] 26))
          obtain ⟨-, -, r60, r61, r62, r63, r64⟩ := hr6.room
          dsimp only at r60 r61 r62 r63 r64
          clear hr6
          have hY : ∀ Y, (Y = wy.alloc (.cells #[.string ⟨#[104, 103, 101, 116]⟩, .string ⟨#[107]⟩, .string T] 9) ∨ Y = (wy.alloc (.cells #[.int .u8 0, .string ⟨#[]⟩, .slice none 0 0, .slice none 0 0, .slice none 0 0] 26)).alloc (.cells #[.string ⟨#[104, 103, 101, 116]⟩, .string ⟨#[107]⟩, .string T] 9) ∨ Y = (wy.alloc (.cells #[.string ⟨#[104, 103, 101, 116]⟩, .string ⟨#[107]⟩, .string T] 9)).alloc (.cells #[.int .u8 0, .string ⟨#[]⟩, .slice none 0 0, .slice none 0 0, .slice none 0 0] 26)) → Below wy.heap.size wy Y := fun Y h => by rcases h with rfl | rfl | rfl; exact (Kit.below1 wy (.cells #[.string ⟨#[104, 103, 101, 116]⟩, .string ⟨#[107]⟩, .string T] 9)); exact ((Kit.below1 wy (.cells #[.int .u8 0, .string ⟨#[]⟩, .slice none 0 0, .slice none 0 0, .slice none 0 0] 26)).trans ((Kit.below1 _ (.cells #[.string ⟨#[104, 103, 101, 116]⟩, .string ⟨#[107]⟩, .string T] 9)).mono (Below.size (Kit.below1 _ _)))); exact ((Kit.below1 wy (.cells #[.string ⟨#[104, 103, 101, 116]⟩, .string ⟨#[107]⟩, .string T] 9)).trans ((Kit.below1 _ (.cells #[.int .u8 0, .string ⟨#[]⟩, .slice none 0 0, .slice none 0 0, .slice none 0 0] 26)).mono (Below.size (Kit.below1 _ _))))
          have HY := Lib.hid hY
          clear hY
          go_region_law (first
            | (go_simp; (with_reducible refine (CD.out _ _ (by first | exact HB.out.trans (Below.mono (HY.out _ (by first | exact Or.inl rfl | exact Or.inr (Or.inl rfl) | exact Or.inr (Or.inr rfl))) HB.out.size) | exact (HB.out.trans (Below.mono (HY.out _ (by first | exact Or.inl rfl | exact Or.inr (Or.inl rfl) | exact Or.inr (Or.inr rfl))) HB.out.size)).drew) (by first | exact (HV4.out.keep (HY.out _ (by first | exact Or.inl rfl | exact Or.inr (Or.inl rfl) | exact Or.inr (Or.inr rfl)))).pv | exact (HV4.out.keep ((HY.out _ (by first | exact Or.inl rfl | exact Or.inr (Or.inl rfl) | exact Or.inr (Or.inr rfl)))).drew).pv) (by first | exact ss3_at wy _ rfl ⟨#[104, 103, 101, 116]⟩ ⟨#[107]⟩ T | exact ss3_at _ _ (by simp) ⟨#[104, 103, 101, 116]⟩ ⟨#[107]⟩ T | exact StrT.Ss.keep (ss3_at wy _ rfl ⟨#[104, 103, 101, 116]⟩ ⟨#[107]⟩ T) (Kit.below1 _ _) | exact StrT.Ss.keep (ss3_at wy _ rfl ⟨#[104, 103, 101, 116]⟩ ⟨#[107]⟩ T) (Below.refl _ _).drew | exact StrT.Ss.keep (ss3_at _ _ (by simp) ⟨#[104, 103, 101, 116]⟩ ⟨#[107]⟩ T) (Below.refl _ _).drew | exact StrT.Ss.keep (StrT.Ss.keep (ss3_at wy _ rfl ⟨#[104, 103, 101, 116]⟩ ⟨#[107]⟩ T) (Kit.below1 _ _)) (Below.refl _ _).drew)).mono ?_); rintro e wq5 ⟨p9, vr, rfl, hI, hd, hn, hA, hb5⟩; dsimp only [PV.agg]
               obtain ⟨k9, S9, ql9, nl9, cl9, qh9, nh9, ch9, qz9, nz9, cz9, d9⟩ := p9
               dsimp only
               obtain ⟨q9, c9, rfl, -⟩ := ans_text hA NV HNV.out XV HXV.out
               have hb5' : Below wy.heap.size wy wq5 := by first | exact c_al (c_al hb5) | exact c_al hb5 | exact c_al (c_dr hb5) | exact c_al (c_al (c_dr hb5))
               have HW5 := Lib.hid hb5'
               have HL5 := Lib.hid hb5'.size
               have HE9 := Lib.hid (show PV.d ⟨k9, S9, ql9, nl9, cl9, qh9, nh9, ch9, qz9, nz9, cz9, d9⟩ = _ from hd)
               have HF9 := Lib.hid (show ∀ k, PV.at_ ⟨k9, S9, ql9, nl9, cl9, qh9, nh9, ch9, qz9, nz9, cz9, d9⟩ k → wy.heap.size ≤ k from fun k hk => Nat.le_trans (by simp; try omega) (hn k hk))
               first
                 | (have hzc : VZ wq5 wy.heap.size := by first | exact vz_al (c_al hb5) | exact vz_al (c_al (c_dr hb5))
                    have HGt := Lib.hid (gov_five (w := wy) hzc hI (fun j hj => by have h1 := hn j hj; first | omega | (simp at h1; omega)) (Nat.le_refl _) HW5.out hA (by first | (simp; done) | (simp; omega)))
                    obtain ⟨⟨z0, z1, z2, z3, z4⟩, y0, y1, y2, y3, y4⟩ := vz_facts hzc
                    clear hzc)
                 | (have hzc : VZ wq5 (wy.alloc (.cells #[.string ⟨#[104, 103, 101, 116]⟩, .string ⟨#[107]⟩, .string T] 9)).heap.size := by first | exact vz_al hb5 | exact vz_al (c_dr hb5)
                    rw [show (wy.alloc (.cells #[.string ⟨#[104, 103, 101, 116]⟩, .string ⟨#[107]⟩, .string T] 9)).heap.size = wy.heap.size + 1 by simp] at hzc
                    have HGt := Lib.hid (gov_five (w := wy) hzc hI (fun j hj => by have h1 := hn j hj; first | omega | (simp at h1; omega)) (Nat.le_succ _) HW5.out hA (by first | (simp; done) | (simp; omega)))
                    obtain ⟨⟨z0, z1, z2, z3, z4⟩, y0, y1, y2, y3, y4⟩ := vz_facts hzc
                    clear hzc)
                 | (have HGt := Lib.hid (gov_new (w := wy) hI HW5.out hA))
               clear hI hd hn hA hb5 hb5'))
          all_goals
            go_wp2_with fail
            go_meet
            exact ⟨_, _, rfl, Lib.hid HGt.out.b, Lib.hid (ans_at HGt.out.a XV HXV.out)⟩
        case rest =>
        obtain ⟨q28, c28, rfl, hbn, HC28⟩ := hcut
        rename World => wz
        have HV8 := Lib.hid (HV8.out.keep hbn.out)
        have HBz := Lib.hid (HBz.out.trans (hbn.out.mono HBz.out.size))
        have hc26 : ∀ W, Below wz.heap.size wz W → _ := fun W hW => HC26.out W (hbn.out.trans (Below.mono hW hbn.out.size))
        have hc28 := HC28.out
        have hv1 : ∀ W, Below wz.heap.size wz W → _ := fun W hW => HC1.out W (hbn.out.trans (Below.mono hW hbn.out.size))
        have l8 : ∀ W, Below wz.heap.size wz W → W.cell? ⟨g8, 3, none⟩ = some (.slice (some ⟨b, off, none⟩) nh8 ch8) := fun W hW => (HV8.out.keep hW).room.c3
        obtain ⟨NV2, HNV2⟩ : ∃ NR, Hid ((bulk V.data.toList).length = NR) := ⟨_, Lib.hid rfl⟩
        have A1 := Lib.hid (fun W (h : Below wz.heap.size wz W) => (show Calls Tryd.prog 12 #[.string V] W (Said wz W NV2 XV) from (rbulk V W HVz.out).mono (fun e w' hh => said_of hh h NV2 HNV2.out XV HXV.out)))
        clear hbn CD HV4 HC26 HC28 HC0 HC1 HV8 HGx HT HVe HNe
        go_upto_region 20 with fail
        go_cut [195] (fun v wx => v = .bool false ∧ Hid (Below wz.heap.size wz wx))
        case first =>
          refine wp_region_held_drew (S := fun W => Below wz.heap.size wz W ∧ Below wz.heap.size wz W) (by kernel_rfl) ?_ (fun hHeld => ?_)
          · exact ⟨(Below.refl _ _).drew, (Below.refl _ _).drew⟩
          refine wpAnyH_take (i := 0) (v := ?_) rfl (by kernel_rfl) (by kernel_rfl) (by kernel_rfl) (fun _ _ _ h => h) (Or.inl ⟨by rfl, ?_⟩) (by assumption) ?_
          rotate_left
          · intro W0 hSw; obtain ⟨hSa, hSb⟩ := hSw; go_simp; all_goals (with_reducible rfl)
          try simp only [Act.put, List.getElem_toArray, List.getElem_cons_zero, List.setIfInBounds_toArray, List.set_cons_zero, List.set_cons_succ]
          refine wpAnyH_take (i := 1) (v := ?_) rfl (by kernel_rfl) (by kernel_rfl) (by kernel_rfl) (fun _ _ _ h => h) (Or.inl ⟨by rfl, ?_⟩) (by assumption) ?_
          rotate_left
          · intro W0 hSw; obtain ⟨hSa, hSb⟩ := hSw; go_simp; all_goals (with_reducible rfl)
          try simp only [Act.put, List.getElem_toArray, List.getElem_cons_succ, List.getElem_cons_zero, List.setIfInBounds_toArray, List.set_cons_zero, List.set_cons_succ]
          refine wpAnyH_take (i := 2) (v := ?_) rfl (by kernel_rfl) (by kernel_rfl) (by kernel_rfl) (fun _ _ _ h => h) (Or.inl ⟨by rfl, ?_⟩) (by assumption) ?_
          rotate_left
          · intro W0 hSw; obtain ⟨hSa, hSb⟩ := hSw; go_simp; all_goals (with_reducible rfl)
          try simp only [Act.put, List.getElem_toArray, List.getElem_cons_succ, List.getElem_cons_zero, List.setIfInBounds_toArray, List.set_cons_zero, List.set_cons_succ]
          refine wpAnyH_take (i := 3) (v := ?_) rfl (by kernel_rfl) (by kernel_rfl) (by kernel_rfl) (fun _ _ _ h => h) (Or.inl ⟨by rfl, ?_⟩) (by assumption) ?_
          rotate_left
          · intro W0 hSw; obtain ⟨hSa, hSb⟩ := hSw; go_simp; all_goals (with_reducible rfl)
          try simp only [Act.put, List.getElem_toArray, List.getElem_cons_succ, List.getElem_cons_zero, List.setIfInBounds_toArray, List.set_cons_zero, List.set_cons_succ]
          refine wpAnyH_take (i := 4) (v := ?_) rfl (by kernel_rfl) (by kernel_rfl) (by kernel_rfl) (fun _ _ _ h => h) (Or.inl ⟨by rfl, ?_⟩) (by assumption) ?_
          rotate_left
          · intro W0 hSw; obtain ⟨hSa, hSb⟩ := hSw; go_simp; all_goals (with_reducible rfl)
          try simp only [Act.put, List.getElem_toArray, List.getElem_cons_succ, List.getElem_cons_zero, List.setIfInBounds_toArray, List.set_cons_zero, List.set_cons_succ]
          refine wpAnyH_take (i := 5) (v := ?_) rfl (by kernel_rfl) (by kernel_rfl) (by kernel_rfl) (fun _ _ _ h => h) (Or.inl ⟨by rfl, ?_⟩) (by assumption) ?_
          rotate_left
          · intro W0 hSw; obtain ⟨hSa, hSb⟩ := hSw; go_simp; all_goals (with_reducible rfl)
          try simp only [Act.put, List.getElem_toArray, List.getElem_cons_succ, List.getElem_cons_zero, List.setIfInBounds_toArray, List.set_cons_zero, List.set_cons_succ]
          refine wpAnyH_take (i := 6) (v := ?_) rfl (by kernel_rfl) (by kernel_rfl) (by kernel_rfl) (fun _ _ _ h => h) (Or.inl ⟨by rfl, ?_⟩) (by assumption) ?_
          rotate_left
          · intro W0 hSw; obtain ⟨hSa, hSb⟩ := hSw; go_simp; all_goals (with_reducible rfl)
          try simp only [Act.put, List.getElem_toArray, List.getElem_cons_succ, List.getElem_cons_zero, List.setIfInBounds_toArray, List.set_cons_zero, List.set_cons_succ]
          refine wpAnyH_take (i := 7) (v := ?_) rfl (by kernel_rfl) (by kernel_rfl) (by kernel_rfl) (fun _ _ _ h => h) (Or.inl ⟨by rfl, ?_⟩) (by assumption) ?_
          rotate_left
          · intro W0 hSw; obtain ⟨hSa, hSb⟩ := hSw; go_simp; all_goals (with_reducible rfl)
          try simp only [Act.put, List.getElem_toArray, List.getElem_cons_succ, List.getElem_cons_zero, List.setIfInBounds_toArray, List.set_cons_zero, List.set_cons_succ]
          refine wpAnyH_ready (rs := [8]) (by kernel_rfl) (by simp) ?_
          refine AllReadyH.cons rfl (fun K hK => ?_) AllReadyH.nil
          go_simp
          go_wp2_with (go_at_call 12; (refine (A1.out _ hHeld.1).mono ?_); rintro e wA0 ⟨pwA0, cwA0, rfl, vwA0, bwA0, ywA0, zwA0⟩)
          have hC := hHeld.2.trans (ywA0.mono hHeld.2.size)
          refine hK.out _ _ ?_ (fun hHeld2 => ?_)
          · exact ⟨bwA0, hC⟩
          clear hK K hHeld hHeld2
          have hHeld : Below wz.heap.size wz wA0 ∧ Below wA0.heap.size wA0 wA0 := ⟨bwA0, zwA0⟩
          refine held_mono (S' := fun W => Below wz.heap.size wz W ∧ Below wA0.heap.size wA0 W) (fun W hW => ⟨hW.1, hC.trans (hW.2.mono hC.size)⟩) _ _ _ _ ?_
          clear hC
          refine wpAnyH_take (i := 9) (v := ?_) rfl (by kernel_rfl) (by kernel_rfl) (by kernel_rfl) (fun _ _ _ h => h) (Or.inl ⟨by rfl, ?_⟩) (by assumption) ?_
          rotate_left
          · intro W0 hSw; obtain ⟨hSa, hSb⟩ := hSw; go_simp; all_goals (with_reducible rfl)
          try simp only [Act.put, List.getElem_toArray, List.getElem_cons_succ, List.getElem_cons_zero, List.setIfInBounds_toArray, List.set_cons_zero, List.set_cons_succ]
          refine wpAnyH_take (i := 10) (v := ?_) rfl (by kernel_rfl) (by kernel_rfl) (by kernel_rfl) (fun _ _ _ h => h) (Or.inl ⟨by rfl, ?_⟩) (by assumption) ?_
          rotate_left
          · intro W0 hSw; obtain ⟨hSa, hSb⟩ := hSw; go_simp; all_goals (with_reducible rfl)
          try simp only [Act.put, List.getElem_toArray, List.getElem_cons_succ, List.getElem_cons_zero, List.setIfInBounds_toArray, List.set_cons_zero, List.set_cons_succ]
          refine wpAnyH_take (i := 11) (v := ?_) rfl (by kernel_rfl) (by kernel_rfl) (by kernel_rfl) (fun _ _ _ h => h) (Or.inl ⟨by rfl, ?_⟩) (by assumption) ?_
          rotate_left
          · intro W0 hSw; obtain ⟨hSa, hSb⟩ := hSw; go_simp; all_goals (with_reducible rfl)
          try simp only [Act.put, List.getElem_toArray, List.getElem_cons_succ, List.getElem_cons_zero, List.setIfInBounds_toArray, List.set_cons_zero, List.set_cons_succ]
          refine wpAnyH_take (i := 12) (v := ?_) rfl (by kernel_rfl) (by kernel_rfl) (by kernel_rfl) (fun _ _ _ h => h) (Or.inl ⟨by rfl, ?_⟩) (by assumption) ?_
          rotate_left
          · intro W0 hSw; obtain ⟨hSa, hSb⟩ := hSw; go_simp; all_goals (with_reducible rfl)
          try simp only [Act.put, List.getElem_toArray, List.getElem_cons_succ, List.getElem_cons_zero, List.setIfInBounds_toArray, List.set_cons_zero, List.set_cons_succ]
          refine wpAnyH_take (i := 13) (v := ?_) rfl (by kernel_rfl) (by kernel_rfl) (by kernel_rfl) (fun _ _ _ h => h) (Or.inl ⟨by rfl, ?_⟩) (by assumption) ?_
          rotate_left
          · intro W0 hSw; obtain ⟨hSa, hSb⟩ := hSw; go_simp; all_goals (with_reducible rfl)
          try simp only [Act.put, List.getElem_toArray, List.getElem_cons_succ, List.getElem_cons_zero, List.setIfInBounds_toArray, List.set_cons_zero, List.set_cons_succ]
          refine wpAnyH_take (i := 14) (v := ?_) rfl (by kernel_rfl) (by kernel_rfl) (by kernel_rfl) (fun _ _ _ h => h) (Or.inl ⟨by rfl, ?_⟩) (by assumption) ?_
          rotate_left
          · intro W0 hSw; obtain ⟨hSa, hSb⟩ := hSw; go_simp; all_goals (with_reducible rfl)
          try simp only [Act.put, List.getElem_toArray, List.getElem_cons_succ, List.getElem_cons_zero, List.setIfInBounds_toArray, List.set_cons_zero, List.set_cons_succ]
          refine wpAnyH_take (i := 15) (v := ?_) rfl (by kernel_rfl) (by kernel_rfl) (by kernel_rfl) (fun _ _ _ h => h) (Or.inl ⟨by rfl, ?_⟩) (by assumption) ?_
          rotate_left
          · intro W0 hSw; obtain ⟨hSa, hSb⟩ := hSw; go_simp; all_goals (with_reducible rfl)
          try simp only [Act.put, List.getElem_toArray, List.getElem_cons_succ, List.getElem_cons_zero, List.setIfInBounds_toArray, List.set_cons_zero, List.set_cons_succ]
          refine wpAnyH_take (i := 16) (v := ?_) rfl (by kernel_rfl) (by kernel_rfl) (by kernel_rfl) (fun _ _ _ h => h) (Or.inl ⟨by rfl, ?_⟩) (by assumption) ?_
          rotate_left
          · intro W0 hSw; obtain ⟨hSa, hSb⟩ := hSw; go_simp; all_goals (with_reducible rfl)
          try simp only [Act.put, List.getElem_toArray, List.getElem_cons_succ, List.getElem_cons_zero, List.setIfInBounds_toArray, List.set_cons_zero, List.set_cons_succ]
          refine wpAnyH_take (i := 17) (v := ?_) rfl (by kernel_rfl) (by kernel_rfl) (by kernel_rfl) (fun _ _ _ h => h) (Or.inl ⟨by rfl, ?_⟩) (by assumption) ?_
          rotate_left
          · intro W0 hSw; obtain ⟨hSa, hSb⟩ := hSw; go_simp; all_goals (with_reducible rfl)
          try simp only [Act.put, List.getElem_toArray, List.getElem_cons_succ, List.getElem_cons_zero, List.setIfInBounds_toArray, List.set_cons_zero, List.set_cons_succ]
          refine wpAnyH_done (by kernel_rfl) ?_ _
          go_wp2_with fail
          go_meet
          exact ⟨rfl, Lib.hid hHeld.1⟩
        case rest =>
        obtain ⟨rfl, hbn⟩ := hcut
        have HBf := Lib.hid (HBz.out.trans (hbn.out.mono HBz.out.size))
        go_wp2_with fail
        go_roundw
        case rel => exact ⟨x + 1, by omega, by go_num, HBf⟩
        case measure => simp [intOf]; omega
    · obtain rfl : x = nh8 := by omega
      have t1 : decide ((x : Int) < (x : Int)) = false := decide_eq_false (by omega)
      go_wp2_with fail
      exact HX.out _ _ _ _ _ _ _ _ _ _ _ _ _ _ _ _ _ _ _ _ _ _ _ _ _ _ _ _ _ _ _ _ _ _ _ _ _ _ _ _ _ _ _ _ _ _ _ _ _ _ _ _ _ _ _ _ _ _ _ _ _ _ _ _ HB.out

end Go.Proofs.YtjikppjlkicgpaaDoor.hashesBack
