/-
  'tipstafflaw05.ReplyArrays': for all texts and numbers it answers true.
-/
import Derived.Test.YteojijocoamohaaDoorReplyReps
import Derived.Deep.RegionHeld
namespace Go.Proofs.YteojijocoamohaaDoor.replyArrays
open Go.RowKit Kit BytesIn ReplyMath ReplyT ReplyM ReplyL NumMath NumL
set_option linter.unusedVariables false
set_option maxRecDepth 100000
-- ASKS: ReplyM.Gx

theorem ok_slice {w : World} {v : Value} {l : List UInt8} (h : Ok w v l) (n : Nat) (hn : l.length = n) : ∃ p c, v = .slice p n c ∧ Bs w p l ∧ n ≤ c ∧ c ≤ 9223372036854775807 ∧ (p = none → c = 0) := by
  subst hn
  exact h
theorem rs_at {w : World} {q : Option Addr} {R : List (List UInt8)} (h : Rs w q R) (k : Nat) (hk : k < R.length) : ∃ b off p c, q = some ⟨b, off, none⟩ ∧ w.cell? ⟨b, off + k, none⟩ = some (.slice p R[k].length c) ∧ Bs w p R[k] ∧ R[k].length ≤ c ∧ c ≤ 9223372036854775807 ∧ (p = none → c = 0) := by
  obtain ⟨b, off, e, hlt, hc⟩ := h (by omega)
  obtain ⟨v, hv, p, c, rfl, h1⟩ := hc k hk
  exact ⟨b, off, p, c, e, hv, h1⟩
/-- The texts cut short, as a callee answers them. -/
def FewIs (w2 W : World) (Lf : List (List UInt8)) (mf : Nat) (e : Ending) (w' : World) : Prop :=
  ∃ p c, e = .returned (.slice p mf c) ∧ Ss w' p Lf ∧ mf ≤ c ∧ c ≤ 9223372036854775807 ∧ (p = none → c = 0) ∧ Below w2.heap.size w2 w' ∧ Below W.heap.size W w' ∧ Below w'.heap.size w' w'

set_option maxHeartbeats 1500000 in
theorem walk (q : Option Addr) (L : List (List UInt8)) (m c : Nat) (n : Int) (w : World) (hL : L.length = m) (h : Ss w q L) (hz : ∀ s ∈ L, s.length ≤ 140737488351232) (hm : m ≤ 9223372036854775807)
    (h0 : -9223372036854775808 ≤ n) (h1 : n ≤ 9223372036854775807) (hg : Gx w) :
    Calls Tryd.prog 6 #[.slice q m c, .int .i64 n] w fun e w' => e = .returned (.bool true) ∧ Below w.heap.size w w' := by
  have HG := Lib.hid hg
  have CS := Lib.hid (shown_any w hg)
  obtain ⟨Lf, hLf⟩ : ∃ Lf, Lf = fewL L := ⟨_, rfl⟩
  obtain ⟨mf, hmf⟩ : ∃ mf, Lf.length = mf := ⟨_, rfl⟩
  have HMf := Lib.hid hmf
  have hmf20 : mf ≤ 20 := by rw [← hmf, hLf]; exact fewL_len L
  have HLe := Lib.hid (show ∀ s ∈ Lf, s.length ≤ 100 by rw [hLf]; exact fewL_each L)
  have CF := Lib.hid (fun w2 W (hw2 : Below w.heap.size w w2) (hW : Below w2.heap.size w2 W) => (show Calls Tryd.prog 10 #[.slice q m c] W (FewIs w2 W Lf mf) from
    (few_any q L m c W hL (h.keep (hw2.trans (hW.mono hw2.size))) hz hm).mono (by
      rintro e w' ⟨v, rfl, hv, hb⟩
      rw [← hLf] at hv
      obtain ⟨p, c', rfl, hS, hc1, hc2, hc3⟩ := hv.ss
      rw [hmf] at hc1 ⊢
      exact ⟨p, c', rfl, hS, hc1, hc2, hc3, hW.trans (hb.mono hW.size), hb, Below.refl _ _⟩)))
  clear h hz hL hg hLf hmf
  go_enter Tryd.func6, Tryd.ntmps6
  go_wp2_with fail
  with_reducible refine CS.out.mono ?_
  rintro e w1 ⟨rfl, hb1⟩
  have HB1 := Lib.hid hb1
  clear hb1 CS
  go_wp2_with fail
  with_reducible refine (CF.out w1 w1 HB1.out (Below.refl _ _)).mono ?_
  rintro e w2 ⟨q2, c2, rfl, hS2, hc2, hcm2, hn2, hb2, -, -⟩
  have HB2 := Lib.hid (HB1.out.trans (hb2.mono HB1.out.size))
  have CR := Lib.hid (replies_any q2 Lf mf c2 n w2 HMf.out hS2 hc2 hcm2 hn2 hmf20 HLe.out h0 h1 (HG.out.keep HB2.out))
  obtain ⟨R, hR⟩ : ∃ R, R = reps Lf n mf := ⟨_, rfl⟩
  have HRe := Lib.hid (show ∀ y ∈ R, Reply y ∧ y.length ≤ 3000 by rw [hR]; exact reps_each Lf n h0 h1 HLe.out (by rw [HMf.out]; exact hmf20) mf)
  have HRl := Lib.hid (show R.length ≤ 42 by rw [hR]; have := reps_len Lf n mf; omega)
  rw [← hR] at CR
  clear hb2 hS2 hc2 hcm2 hn2 hR HB1
  go_wp2_with fail
  with_reducible refine CR.out.mono ?_
  rintro e w3 ⟨v3, rfl, hv3, hb3⟩
  obtain ⟨qr, cr, rfl, hRs, hcr, hcmr, hnr⟩ := hv3.rs
  obtain ⟨N, hN⟩ : ∃ N, R.length = N := ⟨_, rfl⟩
  rw [hN] at hcr ⊢
  have HN := Lib.hid hN
  have HRs := Lib.hid hRs
  have HB3 := Lib.hid (HB2.out.trans (hb3.mono HB2.out.size))
  have hN42 : N ≤ 42 := by rw [← hN]; exact HRl.out
  have HFl := Lib.hid (show R.flatten.length ≤ 126000 by have := flatten_le R (fun y hy => (HRe.out y hy).2); rw [hN] at this; omega)
  have HOA0 := Lib.hid (Own.new w3)
  have HNil := Lib.hid hnr
  clear hv3 hb3 hRs hN hnr CR HB2
  go_wp2_with fail
  go_loopw [7, 8] (fun v i wr => ∃ k : Nat, k ≤ N ∧ i = .int .i64 k ∧ Below w3.heap.size w3 wr ∧ Hid (Own w3.heap.size wr v (R.take k).flatten)) (fun _ i _ => N - (intOf i).toNat)
  case atStart => exact ⟨0, Nat.zero_le _, rfl, below1 _ _, HOA0⟩
  case round =>
    obtain ⟨k, hk, rfl, hb, HO⟩ := hrel
    by_cases hlt : k < N
    · have hkl : k < R.length := by rw [HN.out]; exact hlt
      obtain ⟨b, off, pu, cu, rfl, hu, hBu, hcu, hcmu, hnu⟩ := rs_at (HRs.out.keep hb) k hkl
      have HBu := Lib.hid hBu
      have HSN := Lib.hid (flatten_snoc' R k hkl)
      have HLen := Lib.hid (show (R.take k).flatten.length + R[k].length ≤ 70368744177664 by
        have h1 := flatten_take_le' R (k + 1)
        have h2 := HFl.out
        rw [flatten_snoc' R k hkl, List.length_append] at h1
        omega)
      have HNu := Lib.hid hnu
      clear hBu hnu
      obtain ⟨X, hX⟩ : ∃ X, X = R[k] := ⟨_, rfl⟩
      rw [← hX] at hu HBu HSN HLen hcu
      clear hX
      obtain ⟨Y, hY⟩ : ∃ Y, Y = (R.take k).flatten := ⟨_, rfl⟩
      rw [← hY] at HSN HLen HO
      clear hY
      go_wp2_with (at_builtin; refine wpList_append_bs (w0 := w3) rfl (.tmp 27) (.tmp 31) rfl u7 Y rfl HO.out hb pu X X.length cu rfl rfl HBu.out HNu.out HLen.out _ rfl ?_; intro v' w4 hown1 hb4)
      go_roundw
      case rel => exact ⟨k + 1, by omega, by go_num, hb4, by rw [HSN.out]; exact Lib.hid hown1⟩
      case measure => simp [intOf]; omega
    · have HB4 := Lib.hid (HB3.out.trans (hb.mono HB3.out.size))
      obtain ⟨NF, hNF⟩ : ∃ NF, R.flatten.length = NF := ⟨_, rfl⟩
      have hA : Ok wr u7 R.flatten := by
        have h1 := HO.out
        rw [List.take_of_length_le (by rw [HN.out]; omega)] at h1
        exact h1.ans.ok
      obtain ⟨pA, cA, rfl, hBA, -⟩ := ok_slice hA NF hNF
      have HNF := Lib.hid hNF
      have HBA := Lib.hid hBA
      have HRs4 := Lib.hid (HRs.out.keep hb)
      have CI := Lib.hid (int_any (N : Int) wr (by omega) (by omega) (HG.out.keep HB4.out))
      obtain ⟨I, hI⟩ : ∃ I, I = int (N : Int) := ⟨_, rfl⟩
      have HI := Lib.hid hI
      have HIl := Lib.hid (show I.length ≤ 23 ∧ 1 ≤ I.length by rw [hI]; exact ⟨int_le _ (by omega) (by omega), by simp [int]⟩)
      rw [← hI] at CI
      clear HO hb hA hBA hNF hI HOA0 HB3 HRs
      go_wp2_with fail
      with_reducible refine CI.out.mono ?_
      rintro e w5 ⟨vI, rfl, hvI, hb5⟩
      obtain ⟨NI, hNI⟩ : ∃ NI, I.length = NI := ⟨_, rfl⟩
      obtain ⟨pI, cI, rfl, hBI, hcI, hcmI, hnI⟩ := ok_slice hvI.ok NI hNI
      have HNI := Lib.hid hNI
      have hNI1 : 1 ≤ NI ∧ NI ≤ 23 := by rw [← hNI]; exact ⟨HIl.out.2, HIl.out.1⟩
      have HB5 := Lib.hid (HB4.out.trans (hb5.mono HB4.out.size))
      have HBI := Lib.hid hBI
      have HBA5 := Lib.hid (HBA.out.keep hb5)
      have HRs5 := Lib.hid (HRs4.out.keep hb5)
      have HOR0 := Lib.hid (OwnR.new w5)
      clear hvI hb5 hNI hBI HB4 HBA HRs4 CI HIl
      go_wp2_with fail
      go_loopw [10, 11] (fun v i wr => ∃ k : Nat, k ≤ mf ∧ i = .int .i64 k ∧ Hid (Below w5.heap.size w5 wr) ∧ Hid (OwnR w5.heap.size wr v ((Lf.take k).map bulk))) (fun _ i _ => mf - (intOf i).toNat)
      case atStart => exact ⟨0, Nat.zero_le _, rfl, Lib.hid (below1 _ _), HOR0⟩
      case round =>
        obtain ⟨k, hk, rfl, HBr, HO⟩ := hrel
        go_wp2_with fail
        with_reducible refine (CF.out wr wr (HB5.out.trans (HBr.out.mono HB5.out.size)) (Below.refl _ _)).mono ?_
        rintro e w6 ⟨q6, c6, rfl, -, -, -, -, hb6, -, -⟩
        have HB6 := Lib.hid (HBr.out.trans (hb6.mono HBr.out.size))
        have HO6 := Lib.hid (HO.out.keep hb6)
        clear hb6 HBr HO
        by_cases hlt2 : k < mf
        · have hkl : k < Lf.length := by rw [HMf.out]; exact hlt2
          have d1 : decide ((k : Int) < (mf : Int)) = true := decide_eq_true (by omega)
          go_wp2_with fail
          with_reducible refine (CF.out w6 w6 (HB5.out.trans (HB6.out.mono HB5.out.size)) (Below.refl _ _)).mono ?_
          rintro e w7 ⟨q7, c7, rfl, hS7, hc7, -, -, hb7, -, -⟩
          obtain ⟨b, off, rfl, hbl, hcell⟩ := hS7 (by omega)
          have hu := hcell k hkl
          obtain ⟨S, hS⟩ : ∃ S : ByteArray, S = ⟨Lf[k].toArray⟩ := ⟨_, rfl⟩
          have HSz := Lib.hid (show S.size ≤ 1048576 by rw [hS, size_bytes]; have := HLe.out Lf[k] (List.getElem_mem hkl); omega)
          have HSN := Lib.hid (show (Lf.take (k + 1)).map bulk = (Lf.take k).map bulk ++ [bulk S.data.toList] by
            rw [List.take_succ_eq_append_getElem hkl, List.map_append, hS]
            rfl)
          rw [← hS] at hu
          have HB7 := Lib.hid (HB6.out.trans (hb7.mono HB6.out.size))
          have HO7 := Lib.hid (HO6.out.keep hb7)
          have C := Lib.hid (bulk_any S w7 HSz.out (HG.out.keep (HB5.out.trans (HB7.out.mono HB5.out.size))))
          have HKl := Lib.hid (show ((Lf.take k).map bulk).length + 1 ≤ 1048576 by rw [List.length_map, List.length_take]; omega)
          clear hS hcell hS7 hb7 HO6 HB6
          obtain ⟨Y, hY⟩ : ∃ Y, Y = (Lf.take k).map bulk := ⟨_, rfl⟩
          rw [← hY] at HSN HO7 HKl
          obtain ⟨B, hB⟩ : ∃ B, B = bulk S.data.toList := ⟨_, rfl⟩
          rw [← hB] at HSN C
          clear hY hB
          go_wp2_with fail
          with_reducible refine C.out.mono ?_
          rintro e w8 ⟨x, rfl, hx, hb8⟩
          obtain ⟨px, cx, rfl⟩ := hx.form
          obtain ⟨nx, hnx⟩ : ∃ nx, nx = B.length := ⟨_, rfl⟩
          rw [← hnx] at hx ⊢
          clear hnx
          have hbw := Lib.hid (HB7.out.trans (hb8.mono HB7.out.size))
          have HO1 := Lib.hid ((HO7.out.keep hb8).keep (below1 w8 (.cells [.slice px nx cx].toArray 23)))
          have HX1 := Lib.hid (hx.ok.keep (below1 w8 (.cells [.slice px nx cx].toArray 23)))
          have HAp := Lib.hid (hx.apart (v := u10) (fun g hg => (HO7.out.lt g hg).2))
          clear hx hb8
          go_wp2_with (at_builtin; refine wpList_append_r (w0 := w5) rfl (.tmp 44) (.tmp 51) rfl u10 Y rfl HO1.out (hbw.out.alloc hbw.out.size _) w8.heap.size 1 1 [.slice px nx cx] [B] rfl rfl rfl (laid_new w8 [.slice px nx cx]) (one_row HX1.out HAp.out) (one_cells HX1.out) HKl.out _ rfl ?_; intro v' w9 hown1 hb9)
          go_roundw
          case rel => exact ⟨k + 1, by omega, by go_num, Lib.hid hb9, by rw [HSN.out]; exact Lib.hid hown1⟩
          case measure => simp [intOf]; omega
        · have d1 : decide ((k : Int) < (mf : Int)) = false := decide_eq_false (by omega)
          have hO : OwnR w5.heap.size w6 u10 (Lf.map bulk) := by
            have h1 := HO6.out
            rw [List.take_of_length_le (by rw [HMf.out]; omega)] at h1
            exact h1
          obtain ⟨qb, cb, hvb, hRb, hcb, hcmb, hnb⟩ := hO.rs
          have hml : (Lf.map bulk).length = mf := by rw [List.length_map, HMf.out]
          rw [hml] at hvb hcb
          subst hvb
          have HRb := Lib.hid hRb
          have HNb := Lib.hid hnb
          have HB6w := Lib.hid (HB5.out.trans (HB6.out.mono HB5.out.size))
          have CN := Lib.hid (array_nil w6 (HG.out.keep HB6w.out))
          have HBA6 := Lib.hid (HBA5.out.keep HB6.out)
          have HBI6 := Lib.hid (HBI.out.keep HB6.out)
          have HRs6 := Lib.hid (HRs5.out.keep HB6.out)
          have e0 : array [] = [42, 48, 13, 10] := by decide +kernel
          have HRn := Lib.hid (show Reply [42, 48, 13, 10] from e0 ▸ reply_array [] (by decide) (fun x hx => by simp at hx))
          rw [e0] at CN
          clear hO hRb hnb hml e0 HO6 HBA5 HBI HRs5 HOR0
          go_wp2_with fail
          with_reducible refine CN.out.mono ?_
          rintro e w7 ⟨v7, rfl, ho7, hb7⟩
          go_wp2_with (at_builtin; refine wpList_append_gs (w0 := w6) rfl (.tmp 54) _ rfl v7 [42, 48, 13, 10] rfl ho7 hb7 ⟨#[120]⟩ rfl (by decide) ?_; intro v8 w8 ho8 hb8; obtain ⟨p8, c8, rfl, hB8, hc8, hcm8, hn8⟩ := ok_slice ho8.ans.ok 5 rfl)
          have HB8 := Lib.hid (HB6w.out.trans (hb8.mono HB6w.out.size))
          have CT := Lib.hid (take_yes p8 [42, 48, 13, 10] [120] 5 c8 w8 HRn.out rfl hB8 hc8 hcm8 (by decide) hn8 (HG.out.keep HB8.out))
          have HBA8 := Lib.hid (HBA6.out.keep hb8)
          have HBI8 := Lib.hid (HBI6.out.keep hb8)
          have HRs8 := Lib.hid (HRs6.out.keep hb8)
          have HRb8 := Lib.hid (HRb.out.keep hb8)
          clear ho7 hb7 ho8 hb8 hB8 hc8 hcm8 hn8 HBA6 HBI6 HRs6 HRb CN
          with_reducible refine CT.out.mono ?_
          rintro e w9 ⟨⟨va, vb, rfl, hva, hvb⟩, hb9⟩
          obtain ⟨pa, ca, rfl, hBa, -⟩ := ok_slice hva.ok 4 rfl
          obtain ⟨pb, cb2, rfl, hBb, -⟩ := ok_slice hvb.ok 1 rfl
          have HB9 := Lib.hid (HB8.out.trans (hb9.mono HB8.out.size))
          have HBA9 := Lib.hid (HBA8.out.keep hb9)
          have HBI9 := Lib.hid (HBI8.out.keep hb9)
          have HRs9 := Lib.hid (HRs8.out.keep hb9)
          have HRb9 := Lib.hid (HRb8.out.keep hb9)
          have HGw := fun W (h : Below w9.heap.size w9 W) => HG.out.keep (HB9.out.trans (h.mono HB9.out.size))
          obtain ⟨OS, hOS⟩ : ∃ OS : ByteArray, OS = ⟨(I.drop 1).toArray⟩ := ⟨_, rfl⟩
          obtain ⟨FS, hFS⟩ : ∃ FS : ByteArray, FS = ⟨R.flatten.toArray⟩ := ⟨_, rfl⟩
          obtain ⟨NA, hNA⟩ : ∃ NA, (array R).length = NA := ⟨_, rfl⟩
          have hAS : (⟨#[42]⟩ ++ OS ++ FS : ByteArray) = ⟨(array R).toArray⟩ := same_bytes (by rw [hOS, hFS, HI.out]; simp [int, array, HN.out])
          have hz1 : OS.size ≤ 23 := by rw [hOS, size_bytes, List.length_drop, HNI.out]; omega
          have hz2 : FS.size ≤ 126000 := by rw [hFS, size_bytes]; exact HFl.out
          have hz3 : ¬ (9223372036854775807 < 1 + OS.size) := by omega
          have hz4 : ¬ (9223372036854775807 < 1 + OS.size + FS.size) := by omega
          obtain ⟨NT, hNT⟩ : ∃ NT, (texts Lf).length = NT := ⟨_, rfl⟩
          obtain ⟨TS, hTS⟩ : ∃ TS : ByteArray, TS = ⟨(texts Lf).toArray⟩ := ⟨_, rfl⟩
          have B1 := Lib.hid (fun W (h : Below w9.heap.size w9 W) => (show Calls Tryd.prog 28 #[.slice qr N cr] W (Said w9 W NA (⟨#[42]⟩ ++ OS ++ FS)) from (array_any qr R N cr W HN.out (HRs9.out.keep h) hcr hcmr HNil.out (by omega) (by have := HFl.out; omega) (HGw W h)).mono (fun e w' hh => Gives.said hh h NA hNA _ hAS)))
          have B2 := Lib.hid (fun W (h : Below w9.heap.size w9 W) => CF.out w9 W HB9.out h)
          have B3 := Lib.hid (fun W (h : Below w9.heap.size w9 W) pF cF (hS : Ss W pF Lf) (hc : mf ≤ cF) (hcm : cF ≤ 9223372036854775807) (hn : pF = none → cF = 0) => (show Calls Tryd.prog 25 #[.slice pF mf cF] W (Said w9 W NT TS) from (texts_any pF Lf mf cF W HMf.out hS hc hcm hn (by omega) (fun s hs => by have := HLe.out s hs; omega) (HGw W h)).mono (fun e w' hh => Gives.said hh h NT hNT TS hTS)))
          have B4 := Lib.hid (fun W (h : Below w9.heap.size w9 W) => (show Calls Tryd.prog 28 #[.slice qb mf cb] W (Said w9 W NT TS) from (array_any qb (Lf.map bulk) mf cb W (by rw [List.length_map, HMf.out]) (HRb9.out.keep h) hcb hcmb HNb.out (by omega) (by have := bulks_le Lf HLe.out; rw [HMf.out] at this; omega) (HGw W h)).mono (fun e w' hh => Gives.said hh h NT hNT TS hTS)))
          have hPI : Bs w9 (ReplyT.partAt pI cI 1) (I.drop 1) := by
            have h := partAt_bs (c := cI) HBI9.out (by rw [HNI.out]; exact hcI) 1 NI (by rw [HNI.out]; exact Nat.le_refl _)
            rwa [List.take_of_length_le (by rw [List.length_drop, HNI.out]; omega)] at h
          obtain ⟨PI, hP⟩ : ∃ PI, PI = ReplyT.partAt pI cI 1 := ⟨_, rfl⟩
          rw [← hP] at hPI
          have q1 : ∀ W, (Instr.slice 23 (.slice pI NI cI) (some (.int .i64 1)) none none).run Tryd.prog W = .ok (.slice PI (NI - 1) (cI - 1)) W := fun W => by
            have h := sl_l pI NI cI 1 (by omega) W
            rw [← hP] at h
            exact h
          have cv1 : ∀ W, Below w9.heap.size w9 W → (convert 23 9 (.slice PI (NI - 1) (cI - 1))).run Tryd.prog W = .ok (.string OS) W := fun W h => by rw [hOS]; exact bs_string (hPI.keep h) (NI - 1) (cI - 1) (by rw [List.length_drop, HNI.out])
          have cv2 : ∀ W, Below w9.heap.size w9 W → (convert 23 9 (.slice pA NF cA)).run Tryd.prog W = .ok (.string FS) W := fun W h => by rw [hFS]; exact bs_string (HBA9.out.keep h) NF cA HNF.out.symm
          have cv3 : ∀ W, Below w9.heap.size w9 W → (convert 23 9 (.slice pa 4 ca)).run Tryd.prog W = .ok (.string ⟨#[42, 48, 13, 10]⟩) W := fun W h => bs_string (hBa.keep h) 4 ca rfl
          have cv4 : ∀ W, Below w9.heap.size w9 W → (convert 23 9 (.slice pb 1 cb2)).run Tryd.prog W = .ok (.string ⟨#[120]⟩) W := fun W h => bs_string (hBb.keep h) 1 cb2 rfl
          clear hva hvb hb9 hBa hBb hPI hP hOS hFS hNA hAS hNT hTS HBA8 HBI8 HRs8 HRb8 HBA9 HBI9 HRs9 HRb9 HGw CT HB8 CF HRe HRl HFl HLe HG
          go_wp2_with fail
          go_region_held (fun W => Below w9.heap.size w9 W) (first | assumption | exact (Below.refl _ _).drew | exact Below.drew (by assumption))
            (first
              | (go_at_call 28; (with_reducible refine (B1.out _ (by first | assumption | exact (Below.refl _ _).drew)).mono ?_); rintro e wA ⟨p1, c1, rfl, cw1, bx1, by1, bz1⟩)
              | (go_at_call 10; (with_reducible refine (B2.out _ (by assumption)).mono ?_); rintro e wB ⟨p2, c2', rfl, sf, sc, scm, sn, bx2, by2, bz2⟩)
              | (go_at_call 25; (with_reducible refine (B3.out _ (by assumption) _ _ (by assumption) (by assumption) (by assumption) (by assumption)).mono ?_); rintro e wC ⟨p3, c3, rfl, cw3, bx3, by3, bz3⟩)
              | (go_at_call 28; (with_reducible refine (B4.out _ (by assumption)).mono ?_); rintro e wD ⟨p4, c4, rfl, cw4, bx4, by4, bz4⟩))
          all_goals
            have hfin := HB9.out.trans (bx4.mono HB9.out.size)
            go_wp2_with fail
            go_ret
            exact ⟨rfl, hfin⟩

end Go.Proofs.YteojijocoamohaaDoor.replyArrays
