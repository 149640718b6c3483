/-
  HashesTurns: its loop: pairs of unlike names are set in two orders.
-/
import Derived.Test.YtjikppjlkicgpaaDoorHasTurn
import Derived.Deep.QuietTactic
import Derived.Deep.DeepCutAuto
import Derived.BigQuiet
import Derived.StillTailTactics
import Derived.Deep.RegionLaw
namespace Go.Proofs.YtjikppjlkicgpaaDoor.hashesTurns
open Go.RowKit Kit StrT RowG BOrd ValT StoT ReplyT ReplyMath ValM BytesIn DoT Low LstT HasT NumL NumW NumMath HasM SaidT RefR DoV LawK HasL
set_option linter.unusedVariables false
set_option maxRecDepth 100000


def firstLoop : Code → Option Code
  | .loop c => some c
  | .seq a b => match firstLoop a with
    | some c => some c
    | none => firstLoop b
  | .block _ c => firstLoop c
  | .scope c => firstLoop c
  | .cond _ a b => match firstLoop a with
    | some c => some c
    | none => firstLoop b
  | _ => none
noncomputable def body : Code := ((Tryd.f6.body.bind firstLoop).getD .skip)
theorem range_map_snoc (x : Nat) : (List.range (x + 1)).map nmT = (List.range x).map nmT ++ [nmT x] := by
  rw [List.range_succ, List.map_append]
  rfl

set_option maxHeartbeats 16000000 in
theorem loop_any (w w10 : World) (q : Option Addr) (L : List (List UInt8)) (n c m an ga gb gr : Nat) (vl : Nat → List UInt8)
    (hHG : ∀ W, Below w.heap.size w W → Gd W) (hHB : Below w.heap.size w w10) (hL : L.length = n) (hcn : n ≤ c) (hcm : c ≤ 9223372036854775807) (hHS : StrT.Ss w q L) (hHZ : ∀ s ∈ L, s.length ≤ 140737488351232) (hmn : m ≤ n) (hm8 : m ≤ 8) (han : an ≤ 255) (hvl : vl = fun i => (wd L i).take 20)
    (hga : VB w10 ga pv0) (hgb : VB w10 gb pv0) (hab : ga ≠ gb) (hwa : w.heap.size ≤ ga) (hwb : w.heap.size ≤ gb) (hO : OwnB strE w10 gr 2 2 [(⟨#[104, 100, 101, 108]⟩ : ByteArray).data.toList, (⟨#[107]⟩ : ByteArray).data.toList]) (hra : gr ≠ ga) (hrb : gr ≠ gb) (hwr : w.heap.size ≤ gr)
    {c2 c3 c4 c5 c12 c13 c14 c15 c16 c17 c18 c19 c20 c21 c22 c23 c24 c25 c26 c27 c28 c29 c30 c31 c32 c33 c34 c35 c36 c37 c38 c39 c40 c41 c42 c43 c44 c45 c46 c47 c48 c49 c50 c51 c52 c53 c54 c55 c56 c57 c58 c59 c60 c61 c62 c63 c64 c65 c66 c67 c68 c69 c70 c71 c72 c73 c74 c75 c76 c77 c78 c79 c80 c81 c82 c83 c84 c85 c86 c87 c88 c89 c90 c91 c92 c93 c94 c95 c96 c97 c98 c99 c100 c101 c102 c103 c104 c105 c106 c107 c108 c109 c110 c111 c112 c113 c114 c115 c116 c117 c118 c119 c120 c121 c122 c123 c124 : Value} (K0 : Act → World → Prop) (hexit : ∀ (v11 v12 v23 v24 v25 v26 v27 v28 v29 v30 v31 v32 v33 v34 v35 v36 v37 v38 v39 v40 v41 v42 v43 v44 v45 v46 v47 v48 v49 v50 v51 v52 v53 v54 v55 v56 v57 v58 v59 v60 v61 v62 v63 v64 v65 v66 v67 v68 v69 v70 v71 v72 v73 v74 v75 v76 v77 v78 v79 v80 v81 v82 v83 v84 v85 : Value) (w' : World) (g cap : Nat) (p r : PV), p.d = hashV (turnL vl (List.range m)) → r.d = hashV (turnL vl (rotL an m m)) → VB w' ga p → VB w' gb r → OwnB strE w' g (2 + m) cap ((⟨#[104, 100, 101, 108]⟩ : ByteArray).data.toList :: (⟨#[107]⟩ : ByteArray).data.toList :: (List.range m).map nmT) → Below w.heap.size w w' → K0 ⟨List.toArray ((.slice q n c) :: (.int .u8 (an : Int)) :: (c2) :: (c3) :: (c4) :: (c5) :: (.int .i64 (m : Int)) :: (.string ⟨#[97, 98, 99, 100, 101, 102, 103, 104]⟩) :: (.pointer (some ⟨ga, 0, none⟩)) :: (.pointer (some ⟨gb, 0, none⟩)) :: (.slice (some ⟨g, 0, none⟩) (2 + m) cap) :: (v11) :: (v12) :: (c13) :: (c14) :: (c15) :: (c16) :: (c17) :: (c18) :: (c19) :: (c20) :: (c21) :: (c22) :: (v23) :: (v24) :: (v25) :: (v26) :: (v27) :: (v28) :: (v29) :: (v30) :: (v31) :: (v32) :: (v33) :: (v34) :: (v35) :: (v36) :: (v37) :: (v38) :: (v39) :: (v40) :: (v41) :: (v42) :: (v43) :: (v44) :: (v45) :: (v46) :: (v47) :: (v48) :: (v49) :: (v50) :: (v51) :: (v52) :: (v53) :: (v54) :: (v55) :: (v56) :: (v57) :: (v58) :: (v59) :: (v60) :: (v61) :: (v62) :: (v63) :: (v64) :: (v65) :: (v66) :: (v67) :: (v68) :: (v69) :: (v70) :: (v71) :: (v72) :: (v73) :: (v74) :: (v75) :: (v76) :: (v77) :: (v78) :: (v79) :: (v80) :: (v81) :: (v82) :: (v83) :: (v84) :: (v85) :: (c86) :: (c87) :: (c88) :: (c89) :: (c90) :: (c91) :: (c92) :: (c93) :: (c94) :: (c95) :: (c96) :: (c97) :: (c98) :: (c99) :: (c100) :: (c101) :: (c102) :: (c103) :: (c104) :: (c105) :: (c106) :: (c107) :: (c108) :: (c109) :: (c110) :: (c111) :: (c112) :: (c113) :: (c114) :: (c115) :: (c116) :: (c117) :: (c118) :: (c119) :: (c120) :: (c121) :: (c122) :: (c123) :: (c124) :: []), []⟩ w') :
    Code.wp Tryd.prog (Code.loop body) (Exit.inBlock 0 (Exit.then K0 (bodyPost Tryd.prog Tryd.f6 (fun e w' => e = .returned (.bool true) ∧ Below w.heap.size w w')))) ⟨List.toArray ((.slice q n c) :: (.int .u8 (an : Int)) :: (c2) :: (c3) :: (c4) :: (c5) :: (.int .i64 (m : Int)) :: (.string ⟨#[97, 98, 99, 100, 101, 102, 103, 104]⟩) :: (.pointer (some ⟨ga, 0, none⟩)) :: (.pointer (some ⟨gb, 0, none⟩)) :: (.slice (some ⟨gr, 0, none⟩) 2 2) :: (.int .i64 0) :: (c12) :: (c13) :: (c14) :: (c15) :: (c16) :: (c17) :: (c18) :: (c19) :: (c20) :: (c21) :: (c22) :: (c23) :: (c24) :: (c25) :: (c26) :: (c27) :: (c28) :: (c29) :: (c30) :: (c31) :: (c32) :: (c33) :: (c34) :: (c35) :: (c36) :: (c37) :: (c38) :: (c39) :: (c40) :: (c41) :: (c42) :: (c43) :: (c44) :: (c45) :: (c46) :: (c47) :: (c48) :: (c49) :: (c50) :: (c51) :: (c52) :: (c53) :: (c54) :: (c55) :: (c56) :: (c57) :: (c58) :: (c59) :: (c60) :: (c61) :: (c62) :: (c63) :: (c64) :: (c65) :: (c66) :: (c67) :: (c68) :: (c69) :: (c70) :: (c71) :: (c72) :: (c73) :: (c74) :: (c75) :: (c76) :: (c77) :: (c78) :: (c79) :: (c80) :: (c81) :: (c82) :: (c83) :: (c84) :: (c85) :: (c86) :: (c87) :: (c88) :: (c89) :: (c90) :: (c91) :: (c92) :: (c93) :: (c94) :: (c95) :: (c96) :: (c97) :: (c98) :: (c99) :: (c100) :: (c101) :: (c102) :: (c103) :: (c104) :: (c105) :: (c106) :: (c107) :: (c108) :: (c109) :: (c110) :: (c111) :: (c112) :: (c113) :: (c114) :: (c115) :: (c116) :: (c117) :: (c118) :: (c119) :: (c120) :: (c121) :: (c122) :: (c123) :: (c124) :: []), []⟩ w10 := by
  have HX := Lib.hid hexit
  have HG := Lib.hid hHG
  have HB := Lib.hid hHB
  have HLn := Lib.hid hL
  have HS := Lib.hid hHS
  have HZ := Lib.hid hHZ
  have HVe := Lib.hid hvl
  have HA := Lib.hid hga
  have HBb := Lib.hid hgb
  have HAB := Lib.hid hab
  have HG_ga := Lib.hid hwa
  have HG_gb := Lib.hid hwb
  have HO := Lib.hid hO
  have HN := Lib.hid (show gr ≠ ga ∧ gr ≠ gb ∧ w.heap.size ≤ gr from ⟨hra, hrb, hwr⟩)
  clear hexit hHG hHB hL hHS hHZ hvl hga hgb hab hwa hwb hO hra hrb hwr
  have HE0 := Lib.hid (show PV.d pv0 = hashV (turnL vl (List.range 0)) from rfl)
  have HF0 := Lib.hid (show PV.d pv0 = hashV (turnL vl (rotL an m 0)) from rfl)
  have HR0 := Lib.hid (show ∀ j, PV.at_ pv0 j → j ≠ ga ∧ j ≠ gb ∧ j ≠ gr from fun j hj => absurd hj (pv0_at j))
  conv => arg 2; arg 1; whnf
  go_loopw [10, 11] (fun v i wr => ∃ (x g cap : Nat) (p r : PV), x ≤ m ∧ i = .int .i64 (x : Int) ∧ v = .slice (some ⟨g, 0, none⟩) (2 + x) cap ∧ Hid (p.d = hashV (turnL vl (List.range x))) ∧ Hid (r.d = hashV (turnL vl (rotL an m x))) ∧ Hid (VB wr ga p) ∧ Hid (VB wr gb r) ∧ Hid (∀ j, p.at_ j → j ≠ ga ∧ j ≠ gb ∧ j ≠ g) ∧ Hid (∀ j, r.at_ j → j ≠ ga ∧ j ≠ gb ∧ j ≠ g) ∧ Hid (OwnB strE wr g (2 + x) cap ((⟨#[104, 100, 101, 108]⟩ : ByteArray).data.toList :: (⟨#[107]⟩ : ByteArray).data.toList :: (List.range x).map nmT)) ∧ Hid (g ≠ ga ∧ g ≠ gb ∧ w.heap.size ≤ g) ∧ Hid (Below w.heap.size w wr)) (fun _ i _ => m - (intOf i).toNat)
  case atStart => exact ⟨0, gr, 2, pv0, pv0, Nat.zero_le _, rfl, rfl, HE0, HF0, HA, HBb, HR0, HR0, HO, HN, HB⟩
  case round =>
    clear HE0 HF0 HA HBb HR0 HO HN HB
    obtain ⟨x, g, cap, p, r, hx, rfl, rfl, HDp, HDr, HVp, HVr, HRp, HRr, HO, HN, HB⟩ := hrel
    by_cases hlt : x < m
    · have t1 : decide ((x : Int) < (m : Int)) = true := decide_eq_true (by omega)
      have z1 : ((m : Int) == 0) = false := by rw [beq_eq_false_iff_ne]; omega
      have z2 : ¬ (m : Int) = 0 := by omega
      obtain ⟨jx, hjx⟩ : ∃ jx : Nat, jx = (x + an) % m := ⟨_, rfl⟩
      have hjm : jx < m := by rw [hjx]; exact Nat.mod_lt _ (by omega)
      have HJ := Lib.hid (show ((x : Int) + (an : Int)) % (m : Int) = (jx : Int) by rw [hjx]; rw [Int.natCast_emod, Int.natCast_add])
      have HJx := Lib.hid hjx
      obtain ⟨b, off, rfl, hbl, hcx⟩ := ss_word (HS.out.keep HB.out) x (by rw [HLn.out]; omega)
      obtain ⟨b', off', eb, hblj, hcj⟩ := ss_word (HS.out.keep HB.out) jx (by rw [HLn.out]; omega)
      injection eb with eb
      injection eb with eb1 eb2
      subst eb1 eb2
      obtain ⟨Tx, hTx, hTx2⟩ := str_of (wd L x)
      obtain ⟨Tj, hTj, hTj2⟩ := str_of (wd L jx)
      rw [hTx2] at hcx
      rw [hTj2] at hcj
      have hTxz : Tx.size ≤ 140737488351232 := by rw [← str_len, hTx]; exact wd_le HZ.out x
      have hTjz : Tj.size ≤ 140737488351232 := by rw [← str_len, hTj]; exact wd_le HZ.out jx
      obtain ⟨Vx, hVx⟩ : ∃ Vx : ByteArray, Vx = if Tx.size ≤ 20 then Tx else Tx.extract 0 20 := ⟨_, rfl⟩
      have hVxz := cutN hVx
      obtain ⟨mx, hmx⟩ : ∃ mx : Nat, mx = min Tx.size 20 := ⟨_, rfl⟩
      have hminmx : min (Tx.size : Int) 20 = (mx : Int) := by omega
      have slVx : ∀ W, (Instr.slice 9 (.string Tx) none (some (.int .i64 (mx : Int))) none).run Tryd.prog W = .ok (.string Vx) W := fun W => by
        have h := run_slice_string_h (P := Tryd.prog) W 9 Tx Tryd.underlying9 .i64 (mx : Int) (by omega) (by omega)
        rw [h, hVx]
        split
        · rw [show ((mx : Nat) : Int).toNat = Tx.size by omega, ByteArray.extract_zero_size]
        · rw [show ((mx : Nat) : Int).toNat = 20 by omega]
      have HVx := Lib.hid (show Vx.data.toList = vl x by rw [HVe.out, cut20 hVx, hTx])
      clear hVx hmx
      obtain ⟨Vj, hVj⟩ : ∃ Vj : ByteArray, Vj = if Tj.size ≤ 20 then Tj else Tj.extract 0 20 := ⟨_, rfl⟩
      have hVjz := cutN hVj
      obtain ⟨mj, hmj⟩ : ∃ mj : Nat, mj = min Tj.size 20 := ⟨_, rfl⟩
      have hminmj : min (Tj.size : Int) 20 = (mj : Int) := by omega
      have slVj : ∀ W, (Instr.slice 9 (.string Tj) none (some (.int .i64 (mj : Int))) none).run Tryd.prog W = .ok (.string Vj) W := fun W => by
        have h := run_slice_string_h (P := Tryd.prog) W 9 Tj Tryd.underlying9 .i64 (mj : Int) (by omega) (by omega)
        rw [h, hVj]
        split
        · rw [show ((mj : Nat) : Int).toNat = Tj.size by omega, ByteArray.extract_zero_size]
        · rw [show ((mj : Nat) : Int).toNat = 20 by omega]
      have HVj := Lib.hid (show Vj.data.toList = vl jx by rw [HVe.out, cut20 hVj, hTj])
      clear hVj hmj
      have HCx := Lib.hid (fun (W : World) (hW : ∀ k, k < wr.heap.size → k ≠ ga → W.heap[k]? = wr.heap[k]?) => (show W.cell? ⟨b, off + jx, none⟩ = some (.string Tj) from by
        rw [← hcj]
        simp [World.cell?, hW b hblj (by have h0 := HG_ga.out; have h1 := HS.out (show 0 < L.length by rw [HLn.out]; omega); obtain ⟨b9, off9, e9, hl9, -⟩ := h1; injection e9 with e9; injection e9 with e8 e7; omega)]))
      clear hTx hTx2 hTj hTj2 hjx hcj hblj
      have sn1 := fun W => nm_slice x (by omega) W
      have sn2 := fun W => nm_slice jx (by omega) W
      have hx0 : (0 : Int) ≤ (x : Int) := by omega
      have hxn : (x : Int) < (n : Int) := by omega
      have hj0 : (0 : Int) ≤ (jx : Int) := by omega
      have hjn : (jx : Int) < (n : Int) := by omega
      have HLp := Lib.hid (show (List.range x).length ≤ 8 by simp; omega)
      have HLr := Lib.hid (show (rotL an m x).length ≤ 8 by unfold rotL; simp; omega)
      obtain ⟨k1, S1, ql1, nl1, cl1, qh1, nh1, ch1, qz1, nz1, cz1, d1⟩ := p
      obtain ⟨k2, S2, ql2, nl2, cl2, qh2, nh2, ch2, qz2, nz2, cz2, d2⟩ := r
      have HWr := Lib.hid (show IntKind.i64.wrap ((x : Int) + 1) = (x : Int) + 1 from IntWalk.i64_in _ (by omega))
      have HWj := Lib.hid (show IntKind.i64.wrap ((jx : Int) + 1) = (jx : Int) + 1 from IntWalk.i64_in _ (by omega))
      go_upto_region 11 with fail
      rw [HJ.out]
      have HVl := HVx
      have HIl := Lib.hid (show (turnL vl (List.range x)).length ≤ 8 from Nat.le_trans (turn_len vl _) HLp.out)
      have hwx := HWr.out
      have CD := Lib.hid (fun (Y : World) (gq : Nat) (hB : Below w.heap.size w Y) (hpv : PV.In Y ⟨k1, S1, ql1, nl1, cl1, qh1, nh1, ch1, qz1, nz1, cz1, d1⟩) (hss : StrT.Ss Y (some ⟨gq, 0, none⟩) [(⟨#[104, 115, 101, 116]⟩ : ByteArray).data.toList, (⟨#[107]⟩ : ByteArray).data.toList, ((nmB x) : ByteArray).data.toList, (Vx : ByteArray).data.toList]) => (show Calls Tryd.prog 11 #[.agg #[.int .u8 k1, .string S1, .slice ql1 nl1 cl1, .slice qh1 nh1 ch1, .slice qz1 nz1 cz1], .slice (some ⟨gq, 0, none⟩) 4 4] Y (DoN (hashV (turnL vl (List.range x ++ [x]))) (int (newN (getP (turnL vl (List.range x)) (nmT x)))) Y) from don_to (turn_row vl (List.range x) x _ HVl.out) (onR 0 (by decide) ⟨k1, S1, ql1, nl1, cl1, qh1, nh1, ch1, qz1, nz1, cz1, d1⟩ (turnL vl (List.range x)) ⟨#[104, 115, 101, 116]⟩ ⟨#[107]⟩ [((nmB x) : ByteArray).data.toList, (Vx : ByteArray).data.toList] (some ⟨gq, 0, none⟩) 4 4 Y hpv HDp.out (HG.out Y hB) rfl (Nat.le_refl _) (by decide) hss (by decide) (by decide) (tame0 (turn_up vl _) (Nat.le_refl 2) (by have := HIl.out; omega)))))
      go_cut [] (fun wx => ∃ (k9 : Int) (S9 : ByteArray) (ql9 : Option Addr) (nl9 cl9 : Nat) (qh9 : Option Addr) (nh9 ch9 : Nat) (qz9 : Option Addr) (nz9 cz9 : Nat) (d9 : V), Hid (Trn w wr wx ga ⟨k9, S9, ql9, nl9, cl9, qh9, nh9, ch9, qz9, nz9, cz9, d9⟩ (hashV (turnL vl (List.range x ++ [x])))))
      case first =>
        have hr0 : VB _ ga ⟨k1, S1, ql1, nl1, cl1, qh1, nh1, ch1, qz1, nz1, cz1, d1⟩ := HVp.out
        obtain ⟨-, -, r00, r01, r02, r03, r04⟩ := hr0.room
        dsimp only at r00 r01 r02 r03 r04
        clear hr0
        have hr1 : VB _ ga ⟨k1, S1, ql1, nl1, cl1, qh1, nh1, ch1, qz1, nz1, cz1, d1⟩ := HVp.out.keep (Kit.below1 _ (.cells #[.string ⟨#[104, 115, 101, 116]⟩, .string ⟨#[107]⟩, .string (nmB x), .string Vx] 9))
        obtain ⟨-, -, r10, r11, r12, r13, r14⟩ := hr1.room
        dsimp only at r10 r11 r12 r13 r14
        clear hr1
        have hu0 := hcx
        have hb1 := Kit.below1 wr (.cells #[.string ⟨#[104, 115, 101, 116]⟩, .string ⟨#[107]⟩, .string (nmB x), .string Vx] 9)
        have HW1 := Lib.hid hb1
        clear hb1
        go_region_law (first
          | (go_simp; (with_reducible refine (CD.out _ _ (by first | exact HB.out.trans (HW1.out.mono HB.out.size) | exact (HB.out.trans (HW1.out.mono HB.out.size)).drew) (by first | exact (HVp.out.keep HW1.out).pv | exact (HVp.out.keep HW1.out.drew).pv) (by first | exact ss4_at wr _ rfl ⟨#[104, 115, 101, 116]⟩ ⟨#[107]⟩ (nmB x) Vx | exact ss4_at _ _ (by simp) ⟨#[104, 115, 101, 116]⟩ ⟨#[107]⟩ (nmB x) Vx | exact StrT.Ss.keep (ss4_at wr _ rfl ⟨#[104, 115, 101, 116]⟩ ⟨#[107]⟩ (nmB x) Vx) (Below.refl _ _).drew)).mono ?_); rintro e wq5 ⟨p9, vr, rfl, hI, hd, hn, hA, hb5⟩; dsimp only [PV.agg]
             obtain ⟨k9, S9, ql9, nl9, cl9, qh9, nh9, ch9, qz9, nz9, cz9, d9⟩ := p9
             dsimp only
             have hb5' : Below wr.heap.size wr wq5 := by first | exact c_al hb5 | exact c_al (c_dr hb5)
             have hK := HVp.out.keep hb5'
             have HTr := Lib.hid (trn_five (w := w) (wr := wr) (p := ⟨k9, S9, ql9, nl9, cl9, qh9, nh9, ch9, qz9, nz9, cz9, d9⟩) hK hI hd (fun j hj => by have h1 := hn j hj; first | omega | (simp at h1; omega)) hb5' HB.out HG_ga.out HVp.out.lt)
             obtain ⟨-, -, r50, r51, r52, r53, r54⟩ := hK.room
             dsimp only at r50 r51 r52 r53 r54
             have y0 := hK.room.frz 0
             have y1 := hK.room.frz 1
             have y2 := hK.room.frz 2
             have y3 := hK.room.frz 3
             have y4 := hK.room.frz 4
             clear hI hd hn hA hb5 hb5' hK))
        all_goals
          go_wp2_with fail
          go_meet
          exact ⟨_, _, _, _, _, _, _, _, _, _, _, _, HTr⟩
      case rest =>
      obtain ⟨k9, S9, ql9, nl9, cl9, qh9, nh9, ch9, qz9, nz9, cz9, d9, HTr⟩ := hcut
      rename World => wa
      have HVr2 := Lib.hid (HTr.out.vb HVr.out (fun e => HAB.out e.symm) (fun j hj => (HRr.out j hj).1))
      have HVp2 := Lib.hid HTr.out.v
      have HDp2 := Lib.hid HTr.out.e
      have HO2 := Lib.hid (HTr.out.ob HO.out HN.out.1)
      have hcj := HCx.out wa HTr.out.o
      have HRp2 := Lib.hid (fun j (hj : PV.at_ ⟨k9, S9, ql9, nl9, cl9, qh9, nh9, ch9, qz9, nz9, cz9, d9⟩ j) => (show j ≠ ga ∧ j ≠ gb ∧ j ≠ g from by have h1 := HTr.out.n j hj; have := HVp.out.lt; have := HVr.out.lt; have := HO.out.lt; omega))
      have HB2 := Lib.hid HTr.out.b
      clear HTr CD HVl HIl hwx HVp HDp HVr HO HB HRp hcx slVx hminmx HVx HCx
      have HB := HB2
      have HVl := HVj
      have HIl := Lib.hid (show (turnL vl (rotL an m x)).length ≤ 8 from Nat.le_trans (turn_len vl _) HLr.out)
      have hwx := HWj.out
      go_upto_region 12 with fail
      have CD := Lib.hid (fun (Y : World) (gq : Nat) (hB : Below w.heap.size w Y) (hpv : PV.In Y ⟨k2, S2, ql2, nl2, cl2, qh2, nh2, ch2, qz2, nz2, cz2, d2⟩) (hss : StrT.Ss Y (some ⟨gq, 0, none⟩) [(⟨#[104, 115, 101, 116]⟩ : ByteArray).data.toList, (⟨#[107]⟩ : ByteArray).data.toList, ((nmB jx) : ByteArray).data.toList, (Vj : ByteArray).data.toList]) => (show Calls Tryd.prog 11 #[.agg #[.int .u8 k2, .string S2, .slice ql2 nl2 cl2, .slice qh2 nh2 ch2, .slice qz2 nz2 cz2], .slice (some ⟨gq, 0, none⟩) 4 4] Y (DoN (hashV (turnL vl (rotL an m x ++ [jx]))) (int (newN (getP (turnL vl (rotL an m x)) (nmT jx)))) Y) from don_to (turn_row vl (rotL an m x) jx _ HVl.out) (onR 0 (by decide) ⟨k2, S2, ql2, nl2, cl2, qh2, nh2, ch2, qz2, nz2, cz2, d2⟩ (turnL vl (rotL an m x)) ⟨#[104, 115, 101, 116]⟩ ⟨#[107]⟩ [((nmB jx) : ByteArray).data.toList, (Vj : ByteArray).data.toList] (some ⟨gq, 0, none⟩) 4 4 Y hpv HDr.out (HG.out Y hB) rfl (Nat.le_refl _) (by decide) hss (by decide) (by decide) (tame0 (turn_up vl _) (Nat.le_refl 2) (by have := HIl.out; omega)))))
      go_cut [] (fun wx => ∃ (k7 : Int) (S7 : ByteArray) (ql7 : Option Addr) (nl7 cl7 : Nat) (qh7 : Option Addr) (nh7 ch7 : Nat) (qz7 : Option Addr) (nz7 cz7 : Nat) (d7 : V), Hid (Trn w wa wx gb ⟨k7, S7, ql7, nl7, cl7, qh7, nh7, ch7, qz7, nz7, cz7, d7⟩ (hashV (turnL vl (rotL an m x ++ [jx])))))
      case first =>
        have hr0 : VB _ gb ⟨k2, S2, ql2, nl2, cl2, qh2, nh2, ch2, qz2, nz2, cz2, d2⟩ := HVr2.out
        obtain ⟨-, -, r00, r01, r02, r03, r04⟩ := hr0.room
        dsimp only at r00 r01 r02 r03 r04
        clear hr0
        have hr1 : VB _ gb ⟨k2, S2, ql2, nl2, cl2, qh2, nh2, ch2, qz2, nz2, cz2, d2⟩ := HVr2.out.keep (Kit.below1 _ (.cells #[.string ⟨#[104, 115, 101, 116]⟩, .string ⟨#[107]⟩, .string (nmB jx), .string Vj] 9))
        obtain ⟨-, -, r10, r11, r12, r13, r14⟩ := hr1.room
        dsimp only at r10 r11 r12 r13 r14
        clear hr1
        have hu0 := hcj
        have hb1 := Kit.below1 wa (.cells #[.string ⟨#[104, 115, 101, 116]⟩, .string ⟨#[107]⟩, .string (nmB jx), .string Vj] 9)
        have HW1 := Lib.hid hb1
        clear hb1
        go_region_law (first
          | (go_simp; (with_reducible refine (CD.out _ _ (by first | exact HB.out.trans (HW1.out.mono HB.out.size) | exact (HB.out.trans (HW1.out.mono HB.out.size)).drew) (by first | exact (HVr2.out.keep HW1.out).pv | exact (HVr2.out.keep HW1.out.drew).pv) (by first | exact ss4_at wa _ rfl ⟨#[104, 115, 101, 116]⟩ ⟨#[107]⟩ (nmB jx) Vj | exact ss4_at _ _ (by simp) ⟨#[104, 115, 101, 116]⟩ ⟨#[107]⟩ (nmB jx) Vj | exact StrT.Ss.keep (ss4_at wa _ rfl ⟨#[104, 115, 101, 116]⟩ ⟨#[107]⟩ (nmB jx) Vj) (Below.refl _ _).drew)).mono ?_); rintro e wq5 ⟨p9, vr, rfl, hI, hd, hn, hA, hb5⟩; dsimp only [PV.agg]
             obtain ⟨k7, S7, ql7, nl7, cl7, qh7, nh7, ch7, qz7, nz7, cz7, d7⟩ := p9
             dsimp only
             have hb5' : Below wa.heap.size wa wq5 := by first | exact c_al hb5 | exact c_al (c_dr hb5)
             have hK := HVr2.out.keep hb5'
             have HTr := Lib.hid (trn_five (w := w) (wr := wa) (p := ⟨k7, S7, ql7, nl7, cl7, qh7, nh7, ch7, qz7, nz7, cz7, d7⟩) hK hI hd (fun j hj => by have h1 := hn j hj; first | omega | (simp at h1; omega)) hb5' HB.out HG_gb.out HVr2.out.lt)
             obtain ⟨-, -, r50, r51, r52, r53, r54⟩ := hK.room
             dsimp only at r50 r51 r52 r53 r54
             have y0 := hK.room.frz 0
             have y1 := hK.room.frz 1
             have y2 := hK.room.frz 2
             have y3 := hK.room.frz 3
             have y4 := hK.room.frz 4
             clear hI hd hn hA hb5 hb5' hK))
        all_goals
          go_wp2_with fail
          go_meet
          exact ⟨_, _, _, _, _, _, _, _, _, _, _, _, HTr⟩
      case rest =>
      obtain ⟨k7, S7, ql7, nl7, cl7, qh7, nh7, ch7, qz7, nz7, cz7, d7, HTr⟩ := hcut
      rename World => wb
      have HVp3 := Lib.hid (HTr.out.vb HVp2.out HAB.out (fun j hj => (HRp2.out j hj).2.1))
      have HVr3 := Lib.hid HTr.out.v
      have HDr3 := Lib.hid HTr.out.e
      have HO3 := Lib.hid (HTr.out.ob HO2.out HN.out.2.1)
      have HRr3 := Lib.hid (fun j (hj : PV.at_ ⟨k7, S7, ql7, nl7, cl7, qh7, nh7, ch7, qz7, nz7, cz7, d7⟩ j) => (show j ≠ ga ∧ j ≠ gb ∧ j ≠ g from by have h1 := HTr.out.n j hj; have := HVp2.out.lt; have := HVr2.out.lt; have := HO2.out.lt; omega))
      have HB3 := Lib.hid HTr.out.b
      clear HTr CD HVl HIl hwx HVp2 HVr2 HDr HO2 HB HB2 HRr hcj slVj hminmj HVj
      have hwx := HWr.out
      have HB4 := Lib.hid (HB3.out.alloc HB3.out.size (.cells #[.string (nmB x)] 9))
      have hbk := Kit.below1 wb (.cells #[.string (nmB x)] 9)
      have hrs : Rs strE (wb.alloc (.cells #[.string (nmB x)] 9)) (some ⟨wb.heap.size, 0, none⟩) [(nmB x).data.toList] := rs_ss.2 (by
        intro _
        refine ⟨wb.heap.size, 0, rfl, by simp, fun j hj => ?_⟩
        obtain rfl : j = 0 := by simpa using hj
        simp [World.cell?_alloc_mark])
      obtain ⟨g', cap', w4, hr4, hO4, hg4, ho4, hs4, hb4⟩ := run_append_two (E := strE) 29 (HO3.out.keep hbk) ⟨wb.heap.size, 0, none⟩ [(nmB x).data.toList] 1 1 rfl hrs (by omega)
      have HR4 := Lib.hid (fun ty => (show (Builtin.append_ #[22, 22] ty #[.slice (some ⟨g, 0, none⟩) (2 + x) cap, .slice (some ⟨wb.heap.size, 0, none⟩) 1 1]).run Tryd.prog (wb.alloc (.cells #[.string (nmB x)] 9)) = .ok (.slice (some ⟨g', 0, none⟩) (2 + x + 1) cap') w4 from hr4))
      have hkeep : ∀ k, k < wb.heap.size → k ≠ g → w4.heap[k]? = wb.heap[k]? := fun k hk hne => (ho4 k (by have := hbk.size; omega) hne).trans (hbk.block k hk)
      have hsz : wb.heap.size ≤ w4.heap.size := Nat.le_trans hbk.size hs4
      have HVp4 := Lib.hid (show VB w4 ga ⟨k9, S9, ql9, nl9, cl9, qh9, nh9, ch9, qz9, nz9, cz9, d9⟩ from ⟨(hkeep ga HVp3.out.lt (fun e => HN.out.1 e.symm)).trans HVp3.out.hp, HVp3.out.pv.same hsz (fun j hj => hkeep j (HVp3.out.rows j hj) (HRp2.out j hj).2.2)⟩)
      have HVr4 := Lib.hid (show VB w4 gb ⟨k7, S7, ql7, nl7, cl7, qh7, nh7, ch7, qz7, nz7, cz7, d7⟩ from ⟨(hkeep gb HVr3.out.lt (fun e => HN.out.2.1 e.symm)).trans HVr3.out.hp, HVr3.out.pv.same hsz (fun j hj => hkeep j (HVr3.out.rows j hj) (HRr3.out j hj).2.2)⟩)
      have HO5 := Lib.hid (show OwnB strE w4 g' (2 + (x + 1)) cap' ((⟨#[104, 100, 101, 108]⟩ : ByteArray).data.toList :: (⟨#[107]⟩ : ByteArray).data.toList :: (List.range (x + 1)).map nmT) from by rw [range_map_snoc]; exact hO4)
      have hgne : g' ≠ ga ∧ g' ≠ gb ∧ w.heap.size ≤ g' ∧ (∀ j, PV.at_ ⟨k9, S9, ql9, nl9, cl9, qh9, nh9, ch9, qz9, nz9, cz9, d9⟩ j → j ≠ g') ∧ (∀ j, PV.at_ ⟨k7, S7, ql7, nl7, cl7, qh7, nh7, ch7, qz7, nz7, cz7, d7⟩ j → j ≠ g') := by
        rcases hg4 with rfl | hg4
        · exact ⟨HN.out.1, HN.out.2.1, HN.out.2.2, fun j hj => (HRp2.out j hj).2.2, fun j hj => (HRr3.out j hj).2.2⟩
        · have h1 := HVp3.out.lt
          have h2 := HVr3.out.lt
          have h3 := hbk.size
          have h4 := HB4.out.size
          exact ⟨by omega, by omega, by omega, fun j hj => by have := HVp3.out.rows j hj; omega, fun j hj => by have := HVr3.out.rows j hj; omega⟩
      have HN5 := Lib.hid (show g' ≠ ga ∧ g' ≠ gb ∧ w.heap.size ≤ g' from ⟨hgne.1, hgne.2.1, hgne.2.2.1⟩)
      have HRp5 := Lib.hid (show ∀ j, PV.at_ ⟨k9, S9, ql9, nl9, cl9, qh9, nh9, ch9, qz9, nz9, cz9, d9⟩ j → j ≠ ga ∧ j ≠ gb ∧ j ≠ g' from fun j hj => ⟨(HRp2.out j hj).1, (HRp2.out j hj).2.1, hgne.2.2.2.1 j hj⟩)
      have HRr5 := Lib.hid (show ∀ j, PV.at_ ⟨k7, S7, ql7, nl7, cl7, qh7, nh7, ch7, qz7, nz7, cz7, d7⟩ j → j ≠ ga ∧ j ≠ gb ∧ j ≠ g' from fun j hj => ⟨(HRr3.out j hj).1, (HRr3.out j hj).2.1, hgne.2.2.2.2 j hj⟩)
      have HB5 := Lib.hid (hb4 w.heap.size w HB4.out HN.out.2.2 (Nat.le_trans HB3.out.size hbk.size))
      have HDp5 := Lib.hid (show PV.d ⟨k9, S9, ql9, nl9, cl9, qh9, nh9, ch9, qz9, nz9, cz9, d9⟩ = hashV (turnL vl (List.range (x + 1))) by rw [List.range_succ]; exact HDp2.out)
      have HDr5 := Lib.hid (show PV.d ⟨k7, S7, ql7, nl7, cl7, qh7, nh7, ch7, qz7, nz7, cz7, d7⟩ = hashV (turnL vl (rotL an m (x + 1))) by rw [rot_snoc, ← HJx.out]; exact HDr3.out)
      clear hbk hrs hr4 hO4 hg4 ho4 hs4 hb4 hkeep hsz hgne HVp3 HVr3 HO3 HB3 HB4 HRp2 HRr3 HDp2 HDr3 HN HJx HJ
      go_wp2_with (at_builtin; refine Lib.wpList_append_run _ rfl _ _ _ _ rfl _ _ rfl rfl _ _ (HR4.out _) ?_)
      go_roundw
      case rel => exact ⟨x + 1, g', cap', ⟨k9, S9, ql9, nl9, cl9, qh9, nh9, ch9, qz9, nz9, cz9, d9⟩, ⟨k7, S7, ql7, nl7, cl7, qh7, nh7, ch7, qz7, nz7, cz7, d7⟩, by omega, by go_num, rfl, HDp5, HDr5, HVp4, HVr4, HRp5, HRr5, HO5, HN5, HB5⟩
      case measure => simp [intOf]; omega
    · obtain rfl : m = x := by omega
      have t1 : decide ((m : Int) < (m : Int)) = false := decide_eq_false (by omega)
      go_wp2_with fail
      exact HX.out _ _ _ _ _ _ _ _ _ _ _ _ _ _ _ _ _ _ _ _ _ _ _ _ _ _ _ _ _ _ _ _ _ _ _ _ _ _ _ _ _ _ _ _ _ _ _ _ _ _ _ _ _ _ _ _ _ _ _ _ _ _ _ _ _ _ g cap p r HDp.out HDr.out HVp.out HVr.out HO.out HB.out

end Go.Proofs.YtjikppjlkicgpaaDoor.hashesTurns
