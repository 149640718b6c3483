/-
  'tipstafflaw05.ReplyBack': for all texts, numbers and places it answers true.
-/
import Derived.Test.YteojijocoamohaaDoorReplyReps
import Derived.Deep.QuietTactic
namespace Go.Proofs.YteojijocoamohaaDoor.replyBack
open Go.RowKit Kit BytesIn ReplyMath ReplyT ReplyM ReplyL NumMath NumL
set_option linter.unusedVariables false
set_option maxRecDepth 100000
-- ASKS: ReplyM.Gx

theorem ok_slice {w : World} {v : Value} {l : List UInt8} (h : Ok w v l) (n : Nat) (hn : l.length = n) : ∃ p c, v = .slice p n c ∧ Bs w p l ∧ n ≤ c ∧ c ≤ 9223372036854775807 ∧ (p = none → c = 0) := by
  subst hn
  exact h
theorem rs_at {w : World} {q : Option Addr} {R : List (List UInt8)} (h : Rs w q R) (k : Nat) (hk : k < R.length) : ∃ b off p c, q = some ⟨b, off, none⟩ ∧ w.cell? ⟨b, off + k, none⟩ = some (.slice p R[k].length c) ∧ Bs w p R[k] ∧ R[k].length ≤ c ∧ c ≤ 9223372036854775807 ∧ (p = none → c = 0) := by
  obtain ⟨b, off, e, hlt, hc⟩ := h (by omega)
  obtain ⟨v, hv, p, c, rfl, h1⟩ := hc k hk
  exact ⟨b, off, p, c, e, hv, h1⟩

set_option maxHeartbeats 1500000 in
theorem walk (q : Option Addr) (L : List (List UInt8)) (m c : Nat) (n : Int) (x : Int) (w : World) (hL : L.length = m) (h : Ss w q L) (hz : ∀ s ∈ L, s.length ≤ 140737488351232) (hm : m ≤ 9223372036854775807)
    (h0 : -9223372036854775808 ≤ n) (h1 : n ≤ 9223372036854775807) (hx0 : 0 ≤ x) (hx1 : x ≤ 65535) (hg : Gx w) :
    Calls Tryd.prog 4 #[.slice q m c, .int .i64 n, .int .u16 x] w fun e w' => e = .returned (.bool true) ∧ Below w.heap.size w w' := by
  have HS := Lib.hid h
  have HZ := Lib.hid hz
  have HL := Lib.hid hL
  have HG := Lib.hid hg
  have CS := Lib.hid (shown_any w hg)
  clear h hz hL hg
  go_enter Tryd.func4, Tryd.ntmps4
  go_wp2_with fail
  with_reducible refine CS.out.mono ?_
  rintro e w1 ⟨rfl, hb1⟩
  have CF := Lib.hid (few_any q L m c w1 HL.out (HS.out.keep hb1) HZ.out hm)
  have HB1 := Lib.hid hb1
  clear hb1 CS HS HZ
  obtain ⟨L2, hL2⟩ : ∃ L2, L2 = fewL L := ⟨_, rfl⟩
  have HL2l := Lib.hid (show L2.length ≤ 20 by rw [hL2]; exact fewL_len L)
  have HL2e := Lib.hid (show ∀ s ∈ L2, s.length ≤ 100 by rw [hL2]; exact fewL_each L)
  rw [← hL2] at CF
  clear hL2 HL
  go_wp2_with fail
  with_reducible refine CF.out.mono ?_
  rintro e w2 ⟨v2, rfl, hv2, hb2⟩
  obtain ⟨q2, c2, rfl, hS2, hc2, hcm2, hn2⟩ := hv2.ss
  obtain ⟨m2, hm2⟩ : ∃ m2, L2.length = m2 := ⟨_, rfl⟩
  rw [hm2] at hc2 ⊢
  have HB2 := Lib.hid (HB1.out.trans (hb2.mono HB1.out.size))
  have CR := Lib.hid (replies_any q2 L2 m2 c2 n w2 hm2 hS2 hc2 hcm2 hn2 (by have := HL2l.out; omega) HL2e.out h0 h1 (HG.out.keep HB2.out))
  obtain ⟨R, hR⟩ : ∃ R, R = reps L2 n m2 := ⟨_, rfl⟩
  have HRe := Lib.hid (show ∀ y ∈ R, Reply y ∧ y.length ≤ 3000 by rw [hR]; exact reps_each L2 n h0 h1 HL2e.out HL2l.out m2)
  have HRl := Lib.hid (show R.length ≤ 42 by rw [hR]; have := reps_len L2 n m2; have := HL2l.out; omega)
  rw [← hR] at CR
  clear hv2 hb2 hS2 hc2 hcm2 hn2 hR CF HB1
  go_wp2_with fail
  with_reducible refine CR.out.mono ?_
  rintro e w3 ⟨v3, rfl, hv3, hb3⟩
  obtain ⟨qr, cr, rfl, hRs, hcr, hcmr, hnr⟩ := hv3.rs
  obtain ⟨N, hN⟩ : ∃ N, R.length = N := ⟨_, rfl⟩
  rw [hN] at hcr ⊢
  have HN := Lib.hid hN
  have HRs := Lib.hid hRs
  have HB3 := Lib.hid (HB2.out.trans (hb3.mono HB2.out.size))
  have hN42 : N ≤ 42 := by rw [← hN]; exact HRl.out
  have HFl := Lib.hid (show R.flatten.length ≤ 126000 by have := flatten_le R (fun y hy => (HRe.out y hy).2); rw [hN] at this; omega)
  have HOA0 := Lib.hid (Own.new w3)
  have HAr := Lib.hid (array_le R (fun y hy => (HRe.out y hy).2) (by rw [hN]; omega))
  have HRep := Lib.hid (reply_array R (by rw [hN]; omega) (fun y hy => (HRe.out y hy).1))
  have HNil := Lib.hid hnr
  clear hv3 hb3 hRs hN hnr CR HB2 hm2
  go_wp2_with fail
  go_loopw [9, 10] (fun v i wr => ∃ k : Nat, k ≤ N ∧ i = .int .i64 k ∧ Below w3.heap.size w3 wr ∧ Hid (Own w3.heap.size wr v (R.take k).flatten)) (fun _ i _ => N - (intOf i).toNat)
  case atStart => exact ⟨0, Nat.zero_le _, rfl, below1 _ _, HOA0⟩
  case round =>
    obtain ⟨k, hk, rfl, hb, HO⟩ := hrel
    by_cases hlt : k < N
    · have hkl : k < R.length := by rw [HN.out]; exact hlt
      obtain ⟨b, off, pu, cu, rfl, hu, hBu, hcu, hcmu, hnu⟩ := rs_at (HRs.out.keep hb) k hkl
      have HBu := Lib.hid hBu
      have HSN := Lib.hid (flatten_snoc' R k hkl)
      have HLen := Lib.hid (show (R.take k).flatten.length + R[k].length ≤ 70368744177664 by
        have h1 := flatten_take_le' R (k + 1)
        have h2 := HFl.out
        rw [flatten_snoc' R k hkl, List.length_append] at h1
        omega)
      have HNu := Lib.hid hnu
      clear hBu hnu
      obtain ⟨X, hX⟩ : ∃ X, X = R[k] := ⟨_, rfl⟩
      rw [← hX] at hu HBu HSN HLen hcu
      clear hX
      obtain ⟨Y, hY⟩ : ∃ Y, Y = (R.take k).flatten := ⟨_, rfl⟩
      rw [← hY] at HSN HLen HO
      clear hY
      go_wp2_with (at_builtin; refine wpList_append_bs (w0 := w3) rfl (.tmp 35) (.tmp 39) rfl u9 Y rfl HO.out hb pu X X.length cu rfl rfl HBu.out HNu.out HLen.out _ rfl ?_; intro v' w4 hown1 hb4)
      go_roundw
      case rel => exact ⟨k + 1, by omega, by go_num, hb4, by rw [HSN.out]; exact Lib.hid hown1⟩
      case measure => simp [intOf]; omega
    · have hb4 := Lib.hid hb
      have HA := Lib.hid (show Ok wr u9 R.flatten by
        have h1 := HO.out
        rw [List.take_of_length_le (by rw [HN.out]; omega)] at h1
        exact h1.ans.ok)
      have HB4 := Lib.hid (HB3.out.trans (hb.mono HB3.out.size))
      have CA := Lib.hid (array_any qr R N cr wr HN.out (HRs.out.keep hb) hcr hcmr HNil.out (by omega) (by have := HFl.out; omega) (HG.out.keep HB4.out))
      have HRs4 := Lib.hid (HRs.out.keep hb)
      obtain ⟨A, hA⟩ : ∃ A, A = array R := ⟨_, rfl⟩
      rw [← hA] at CA HAr HRep
      clear HO hb hA HOA0 HB3 hb4
      go_wp2_with fail
      with_reducible refine CA.out.mono ?_
      rintro e w5 ⟨vA, rfl, hvA, hb5⟩
      have HB5 := Lib.hid (HB4.out.trans (hb5.mono HB4.out.size))
      have HA5 := Lib.hid (HA.out.keep hb5)
      have HRs5 := Lib.hid (HRs4.out.keep hb5)
      obtain ⟨NA, hNA⟩ : ∃ NA, A.length = NA := ⟨_, rfl⟩
      obtain ⟨pA, cA, rfl, hBA, hcA, hcmA, hnA⟩ := ok_slice hvA.ok NA hNA
      have HBA := Lib.hid hBA
      have HNA := Lib.hid hNA
      have HnA := Lib.hid hnA
      have hNA1 : NA ≤ 126023 := by have := HAr.out.1; rw [hNA, HN.out] at this; omega
      have hNA2 : 4 ≤ NA := by have := HAr.out.2; rw [hNA] at this; exact this
      clear hvA hb5 hBA hNA hnA CA HA HB4 HRs4 HAr
      go_wp2_with fail
      go_loopw [12, 13] (fun v i wr => ∃ k : Nat, k ≤ N ∧ i = .int .i64 k ∧ Hid (Below w5.heap.size w5 wr) ∧ Hid (Ok wr v (R.drop k).flatten)) (fun _ i _ => N - (intOf i).toNat)
      case atStart => exact ⟨0, Nat.zero_le _, rfl, Lib.hid (Below.refl _ _), HA5⟩
      case round =>
        obtain ⟨k, hk, rfl, HBr, HO⟩ := hrel
        by_cases hlt2 : k < N
        · have d1 : decide ((k : Int) < (N : Int)) = true := decide_eq_true (by omega)
          have hkl : k < R.length := by rw [HN.out]; exact hlt2
          have HSD := Lib.hid (flatten_drop R k hkl)
          have HRk := Lib.hid (HRe.out R[k] (List.getElem_mem hkl))
          have HRat := Lib.hid (rs_at (HRs5.out.keep HBr.out) k hkl)
          obtain ⟨X, hX⟩ : ∃ X, X = R[k] := ⟨_, rfl⟩
          rw [← hX] at HSD HRk HRat
          obtain ⟨F2, hF2⟩ : ∃ F2, F2 = (R.drop (k + 1)).flatten := ⟨_, rfl⟩
          have HF2 := Lib.hid hF2
          have HF2l := Lib.hid (show F2.length ≤ 126000 by rw [hF2]; have := flatten_drop_le R (k + 1); have := HFl.out; omega)
          rw [← hF2] at HSD
          have hOk := HO.out
          rw [HSD.out] at hOk
          obtain ⟨nr, hnr2⟩ : ∃ nr, nr = X.length + F2.length := ⟨_, rfl⟩
          obtain ⟨pr, cr2, rfl, hBr, hcr2, hcmr2, hnr3⟩ := ok_slice hOk nr (by rw [List.length_append, hnr2])
          have CT := Lib.hid (take_yes pr X F2 nr cr2 wr HRk.out.1 hnr2.symm hBr hcr2 hcmr2 (by have := HRk.out.2; have := HF2l.out; omega) hnr3 (HG.out.keep (HB5.out.trans (HBr.out.mono HB5.out.size))))
          clear hX hF2 hOk hBr hcr2 hcmr2 hnr3 HO hnr2
          go_wp2_with fail
          with_reducible refine CT.out.mono ?_
          rintro e w6 ⟨⟨vx, vr, rfl, hvx, hvr⟩, hb6⟩
          obtain ⟨px, cx, rfl⟩ := hvx.form
          obtain ⟨pt, ct, rfl⟩ := hvr.form
          have HB6 := Lib.hid (HBr.out.trans (hb6.mono HBr.out.size))
          have HO6 := Lib.hid hvr.ok
          obtain ⟨b, off, pu, cu, hqr, hu, hBu, -⟩ := HRat.out
          have hblt : b < wr.heap.size := Go.block_lt_of_cell hu
          have hu6 : w6.cell? ⟨b, off + k, none⟩ = some (.slice pu X.length cu) := by rw [hb6.cell (p := ⟨b, off + k, none⟩) hblt]; exact hu
          obtain ⟨nX, hnX⟩ : ∃ nX, X.length = nX := ⟨_, rfl⟩
          obtain ⟨nF, hnF⟩ : ∃ nF, F2.length = nF := ⟨_, rfl⟩
          obtain ⟨XS, hXS⟩ : ∃ XS : ByteArray, XS = ⟨X.toArray⟩ := ⟨_, rfl⟩
          have cv1 : ∀ z, (convert 23 9 (.slice px nX cx)).run Tryd.prog (w6.drewN z) = .ok (.string XS) (w6.drewN z) := fun z => by
            have h1 := hvx.ok
            obtain ⟨p', c', e', hB', -⟩ := h1
            injection e' with e1 e2 e3
            subst e1 e3
            rw [hXS]
            exact bs_string (w := w6.drewN z) hB' nX _ hnX.symm
          have cv2 : ∀ z, (convert 23 9 (.slice pu nX cu)).run Tryd.prog (w6.drewN z) = .ok (.string XS) (w6.drewN z) := fun z => by
            rw [hXS]
            exact bs_string (w := w6.drewN z) (hBu.keep (below_drewN hb6 z)) nX _ hnX.symm
          rw [hnX] at hu6 ⊢
          rw [hnF] at HO6 ⊢
          subst hqr
          clear hvx hvr hb6 HRat hu hBu hXS CT
          go_wp2_with fail
          go_quiet (fail)
          go_wp2_with fail
          go_roundw
          case rel => exact ⟨k + 1, by omega, by go_num, Lib.hid (below_drewN HB6.out _), by rw [← HF2.out]; exact HO6⟩
          case measure => simp [intOf]; omega
        · have d1 : decide ((k : Int) < (N : Int)) = false := decide_eq_false (by omega)
          have hOk := HO.out
          rw [show (R.drop k).flatten = [] by rw [List.drop_eq_nil_of_le (by rw [HN.out]; omega)]; rfl] at hOk
          obtain ⟨pr, cr2, rfl, -⟩ := ok_slice hOk 0 rfl
          have t1 : ((NA : Int) == 0) = false := by rw [beq_eq_false_iff_ne]; omega
          have HO0 := Lib.hid (Own.new wr)
          have HB0 := Lib.hid (below1 wr (.cells #[] 5))
          have HBAr := Lib.hid (fun W (h : Below wr.heap.size wr W) => (HBA.out.keep HBr.out).keep h)
          have HBw := Lib.hid (HB5.out.trans (HBr.out.mono HB5.out.size))
          obtain ⟨J, hJ⟩ : ∃ J : Nat, x.tmod (NA : Int) = (J : Int) := ⟨(x.tmod (NA : Int)).toNat, by have := Int.tmod_nonneg (NA : Int) hx0; omega⟩
          have hJN : J < NA := by have := Int.tmod_lt_of_pos x (show (0 : Int) < NA by omega); omega
          have e1 : IntKind.i64.wrap x = x := IntWalk.i64_in _ (by omega)
          have q1 := fun W => sl_h pA NA cA J (by omega) W
          have HPart := Lib.hid (show ∀ r, ¬ Skips 1 (A.take J) r from fun r => part_none HRep.out (List.take_append_drop J A).symm (by
            intro h
            have := congrArg List.length h
            rw [List.length_drop, HNA.out, List.length_nil] at this
            omega) r)
          obtain ⟨pJ, hpJ⟩ : ∃ pJ, pJ = ReplyT.partAt pA cA 0 := ⟨_, rfl⟩
          have HpJ := Lib.hid hpJ
          rw [← hpJ] at q1
          clear hOk HO hpJ HA5 HRs5 HRs HRe HFl
          go_wp2_with (at_builtin; first
            | (refine wpList_append_bs (w0 := wr) rfl (.tmp 73) (.tmp 74) rfl _ [] rfl HO0.out HB0.out pA A NA cA rfl HNA.out (HBAr.out _ HB0.out) HnA.out (by simp; omega) A rfl ?_; intro v7 w7 ho7 hb7)
            | (refine wpList_append_bs (w0 := wr) rfl (.tmp 75) (.tmp 76) rfl _ A rfl (ho7.al _) (hb7.alloc hb7.size _) (some ⟨w7.heap.size, 0, none⟩) [122] 1 1 rfl rfl (lit1_bs _ _ _ rfl) (fun h => by cases h) (by rw [HNA.out]; omega) _ rfl ?_; intro v8 w8 ho8 hb8; obtain ⟨p8, c8, rfl, hB8, hc8, hcm8, hn8⟩ := ok_slice ho8.ans.ok (NA + 1) (by rw [List.length_append, HNA.out]; rfl)))
          have HB8 := Lib.hid (HBw.out.trans (hb8.mono HBw.out.size))
          have HBA8 := Lib.hid (HBAr.out _ hb8)
          have CT1 := Lib.hid (take_yes p8 A [122] (NA + 1) c8 w8 HRep.out (by rw [HNA.out]; rfl) hB8 hc8 hcm8 (by omega) hn8 (HG.out.keep HB8.out))
          clear ho7 hb7 ho8 hb8 hB8 hc8 hcm8 hn8 HO0 HB0 HBAr
          with_reducible refine CT1.out.mono ?_
          rintro e w9 ⟨⟨va, vb, rfl, hva, hvb⟩, hb9⟩
          obtain ⟨pa, ca, rfl, hBa, -⟩ := ok_slice hva.ok NA HNA.out
          obtain ⟨pb, cb, rfl, hBb, -⟩ := ok_slice hvb.ok 1 rfl
          have HB9 := Lib.hid (HB8.out.trans (hb9.mono HB8.out.size))
          have HBA9 := Lib.hid (HBA8.out.keep hb9)
          have HBa := Lib.hid hBa
          have HBb := Lib.hid hBb
          have CT2 := Lib.hid (take_no pJ (A.take J) J cA w9 HPart.out (by rw [List.length_take, HNA.out]; omega) (by
            rw [HpJ.out]
            have h := partAt_bs (c := cA) HBA9.out (by rw [HNA.out]; exact hcA) 0 J (by rw [HNA.out]; omega)
            rwa [List.drop_zero, Nat.sub_zero] at h) (by omega) hcmA (by omega) (fun h => by rw [HpJ.out] at h; have := ReplyT.partAt_none HnA.out h; omega) (HG.out.keep HB9.out))
          clear hva hvb hb9 hBa hBb HB8 HBA8 CT1
          go_wp2_with fail
          with_reducible refine CT2.out.mono ?_
          rintro e w10 ⟨⟨vc, vd, rfl, hvc, hvd⟩, hb10⟩
          have HB10 := Lib.hid (HB9.out.trans (hb10.mono HB9.out.size))
          obtain ⟨AS, hAS⟩ : ∃ AS : ByteArray, AS = ⟨A.toArray⟩ := ⟨_, rfl⟩
          have cv1 := bs_string (HBA9.out.keep hb10) NA cA HNA.out.symm
          have cv2 := bs_string (HBa.out.keep hb10) NA ca HNA.out.symm
          have cv3 := bs_string (HBb.out.keep hb10) 1 cb rfl
          rw [← hAS] at cv1 cv2
          clear hAS hb10 hvc hvd CT2
          go_wp2_with fail
          go_ret
          exact ⟨rfl, HB10.out⟩

end Go.Proofs.YteojijocoamohaaDoor.replyBack
