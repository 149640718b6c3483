/-
  The document's own store: a value that is something is put.
-/
import Derived.Test.YtbcjgkedlapmhaaRefSto5
namespace Go.Proofs.Ytbcjgkedlapmhaa.RefY
open Go.RowKit Kit StrT RowG BOrd ValT StoT
open Go.Op (bytesLess)
set_option linter.unusedVariables false
set_option maxRecDepth 100000

theorem key_less {A K : ByteArray} {x k : List UInt8} (hA : A = ⟨x.toArray⟩) (hK : K.data.toList = k) : bytesLess A.toList K.toList = bytesLess x k := by
  rw [hA, ByteArray.toList_eq, ByteArray.toList_eq, hK]
set_option maxHeartbeats 8000000 in
theorem rput_some {y : Nat} {ql : Option Addr} {nl cl : Nat} {qc : Option Addr} {nc cc : Nat} {P : List (En PV)} {Q : List Cn} {t : Nat} (K : ByteArray) (k : List UInt8) (p : PV) (w : World) (hK : K.data.toList = k) (hp0 : (p.k == 0) = false) (H : YR w y ql nl cl qc nc cc P Q t) (ho : ordE P) (hz : nl ≤ 1000000) (hzc : nc ≤ 1000000) (hm : ∀ x ∈ Q, x.n ≤ 1000000000000) :
    Calls Try.prog 20 #[.pointer (some ⟨y, 0, none⟩), .string K, .agg #[.int .u8 p.k, .string p.S, .slice p.ql p.nl p.cl, .slice p.qh p.nh p.ch, .slice p.qz p.nz p.cz]] w fun e w' => e = .returned (.tuple #[]) ∧
      ∃ ql' nl' cl' qc' nc' cc' Q', YR w' y ql' nl' cl' qc' nc' cc' (putP k p P) Q' t ∧ YStep w y ql qc w' ql' qc' ∧ (∀ x, cntL Q' x = cnt k (cntL Q) x) ∧ LenP Q Q' k := by
  obtain ⟨p0, p1, pl, pn, pc, hl, hn, hc, zl, zn, zc, pd⟩ := p
  simp only at hp0 ⊢
  have HB0 := Lib.hid (show Below w.heap.size w (w.alloc (.cells #[.int .u8 p0, .string p1, .slice pl pn pc, .slice hl hn hc, .slice zl zn zc] 35)) from (Below.refl _ _).alloc (Nat.le_refl _) _)
  have HZ0 := Lib.hid (VCells.new w (.int .u8 p0) (.string p1) (.slice pl pn pc) (.slice hl hn hc) (.slice zl zn zc) w.heap.size rfl)
  have HF0 := Lib.hid (show ¬ FY y ql qc w.heap.size from fun h => absurd (H.lt _ h) (Nat.lt_irrefl _))
  have HA := Lib.hid (show YR (w.alloc (.cells #[.int .u8 p0, .string p1, .slice pl pn pc, .slice hl hn hc, .slice zl zn zc] 35)) y ql nl cl qc nc cc P Q t from H.same (fun k hk => Below.heap_alloc _ _ _ (H.lt k hk)))
  have HO := Lib.hid (ord_let (k := k) ho)
  have HO0 := Lib.hid ho
  have HKh := Lib.hid hK
  have HM := Lib.hid hm
  have HLl := Lib.hid (show (letL k P).length ≤ nl by rw [← H.rl.len]; exact List.length_filter_le _ _)
  have CL := Lib.hid (rlet K k _ hK HA.out ho hz)
  clear H ho hK hm
  go_enter Try.func20, Try.ntmps20
  go_wp2_with fail
  generalize w.alloc (.cells #[.int .u8 p0, .string p1, .slice pl pn pc, .slice hl hn hc, .slice zl zn zc] 35) = w1 at HB0 HZ0 HA CL ⊢
  refine CL.out.mono ?_
  rintro e w2 ⟨rfl, ql', nl', cl', hy, hs⟩
  have HY := Lib.hid hy
  have HSt := Lib.hid (hs.after HB0.out)
  have HBl := Lib.hid (hs.block HZ0.out.lt HF0.out)
  have HZ := Lib.hid (VCells.of (by rw [HBl.out.1]; exact HZ0.out.hp) : VCells w2 w.heap.size (.int .u8 p0) (.string p1) (.slice pl pn pc) (.slice hl hn hc) (.slice zl zn zc))
  have hN2 := HY.out.rl.len
  have CF := Lib.hid (rfind K k w2 HKh.out HY.out (by have := HLl.out; omega))
  have HN := Lib.hid hN2
  clear hy hs CL HA HB0 HZ0 HF0 hN2
  go_wp2_with fail
  refine CF.out.mono ?_
  rintro e w3 ⟨⟨r, rfl, hr⟩, rfl⟩
  obtain ⟨-, -, z0, z1, z2, z3, z4⟩ := HZ.out
  have CC := Lib.hid (rcount K k w3 HKh.out HY.out hzc HM.out)
  have HFl := Lib.hid (find_look HO.out hr)
  clear hr CF
  go_wp2_with fail
  refine CC.out.mono ?_
  rintro e w4 ⟨rfl, qc', nc', cc', Q', hy4, hs4, hc4, hl4⟩
  have HY4 := Lib.hid hy4
  have HS4 := Lib.hid (HSt.out.trans hs4)
  have HB4 := Lib.hid (hs4.block HZ.out.lt HBl.out.2.2)
  have HZ4 := Lib.hid (VCells.of (by rw [HB4.out.1]; exact HZ.out.hp) : VCells w4 w.heap.size (.int .u8 p0) (.string p1) (.slice pl pn pc) (.slice hl hn hc) (.slice zl zn zc))
  have HC4 := Lib.hid hc4
  have HL4 := Lib.hid hl4
  clear hy4 hs4 hc4 hl4 CC HSt z0 z1 z2 z3 z4 HBl HZ HY
  obtain ⟨-, -, z0, z1, z2, z3, z4⟩ := HZ4.out
  obtain ⟨c0, c1, c2⟩ := yr_cells HY4.out
  have hzl : nl' ≤ 1000000 := by have := HLl.out; have := HN.out; omega
  rcases HFl.out with ⟨rfl, hlk, hno⟩ | ⟨i, hi, rfl, hk, hlk⟩
  · have HP := Lib.hid (show putP k ⟨p0, p1, pl, pn, pc, hl, hn, hc, zl, zn, zc, pd⟩ P = ins ⟨k, ⟨p0, p1, pl, pn, pc, hl, hn, hc, zl, zn, zc, pd⟩, 0, false, false⟩ (letL k P) by
      unfold putP
      rw [hlk, ← rm_let k P, rm_none hno]
      rfl)
    have HNo := Lib.hid hno
    obtain ⟨u, hu⟩ : ∃ u : En PV, u = ⟨k, ⟨p0, p1, pl, pn, pc, hl, hn, hc, zl, zn, zc, pd⟩, 0, false, false⟩ := ⟨_, rfl⟩
    rw [← hu] at HP
    have HU := Lib.hid (show enE.enc u = [.string K, .int .u8 p0, .string p1, .slice pl pn pc, .slice hl hn hc, .slice zl zn zc, .int .i64 0, .bool false, .bool false] by
      rw [hu, show K = ⟨k.toArray⟩ by rw [← HKh.out]]
      rfl)
    have HUk := Lib.hid (show u.key = k by rw [hu])
    obtain ⟨L, hL⟩ : ∃ L, L = letL k P := ⟨_, rfl⟩
    rw [← hL] at HO HN HY4 HP HNo
    clear hlk hu hL HFl hno HLl
    have HE0 := Lib.hid (ownR_new enE w4.heap.size w4 w4.heap.size rfl (Nat.le_refl _))
    have HB40 := Lib.hid (show Below w4.heap.size w4 (w4.alloc (.cells #[] enE.ty)) from (Below.refl _ _).alloc (Nat.le_refl _) _)
    have HRk := Lib.hid (fun W (hb : Below w4.heap.size w4 W) => (⟨yr_cells (HY4.out.same (w' := W) (fun k hk => hb.block k (HY4.out.lt k hk))), HY4.out.rl.rs.keep hb, HZ4.out.keep hb⟩ : _ ∧ Rs enE W ql' L ∧ VCells W w.heap.size _ _ _ _ _))
    go_wp2_with fail
    clear c0 c1 c2 z0 z1 z2 z3 z4
    go_loopw [7, 8, 9] (fun v b i wr => ∃ (j : Nat) (B : Bool) (o : List (En PV)), j ≤ nl' ∧ i = .int .i64 (j : Int) ∧ b = .bool B ∧ Hid (putInv u L j o B) ∧ Hid (OwnR enE w4.heap.size wr v o) ∧ Hid (Below w4.heap.size w4 wr)) (fun _ _ i _ => nl' + 1 - (intOf i).toNat)
    case atStart => exact ⟨0, false, [], Nat.zero_le _, rfl, rfl, Lib.hid (put_start u L), HE0, HB40⟩
    case round =>
      obtain ⟨j, B, o, hj, rfl, rfl, HI, HOw, HB⟩ := hrel
      obtain ⟨⟨c0, c1, c2⟩, HR, HZr⟩ := HRk.out wr HB.out
      have HRs := Lib.hid HR
      have HZs := Lib.hid HZr
      clear HR HZr
      obtain ⟨-, -, z0, z1, z2, z3, z4⟩ := HZs.out
      have hol : o.length ≤ 1000001 := by have := put_len HI.out; omega
      by_cases hlt : j < nl'
      · have d1 : decide ((j : Int) < (nl' : Int)) = true := decide_eq_true (by omega)
        have hj0 : (0 : Int) ≤ (j : Int) := by omega
        have hjn : (j : Int) < (nl' : Int) := by omega
        have hjl : j < L.length := by rw [HN.out]; exact hlt
        obtain ⟨bb, off, e, hbl, u0, u1, u2, u3, u4, u5, u6, u7, u8⟩ := en_cells HRs.out j hjl
        subst e
        have HXi := Lib.hid (fun W (hb : Below w4.heap.size w4 W) => (by
          obtain ⟨b', off', e, -, h⟩ := en_cells (HRk.out W hb).2.1 j hjl
          injection e with e
          injection e with e1 e2
          subst e1 e2
          exact h : W.cell? ⟨bb, off + j * 9, none⟩ = some (.string ⟨L[j].key.toArray⟩) ∧ W.cell? ⟨bb, off + j * 9 + 1, none⟩ = some (.int .u8 L[j].v.k) ∧ W.cell? ⟨bb, off + j * 9 + 2, none⟩ = some (.string L[j].v.S) ∧
            W.cell? ⟨bb, off + j * 9 + 3, none⟩ = some (.slice L[j].v.ql L[j].v.nl L[j].v.cl) ∧ W.cell? ⟨bb, off + j * 9 + 4, none⟩ = some (.slice L[j].v.qh L[j].v.nh L[j].v.ch) ∧ W.cell? ⟨bb, off + j * 9 + 5, none⟩ = some (.slice L[j].v.qz L[j].v.nz L[j].v.cz) ∧
            W.cell? ⟨bb, off + j * 9 + 6, none⟩ = some (.int .i64 L[j].due) ∧ W.cell? ⟨bb, off + j * 9 + 7, none⟩ = some (.bool L[j].on) ∧ W.cell? ⟨bb, off + j * 9 + 8, none⟩ = some (.bool L[j].past)))
        have hxk : L[j].key ≠ k := HNo.out _ (List.getElem_mem hjl)
        have HMo := Lib.hid (fun (h : putInv u L j o false) hg => put_more hjl h hg)
        have HLe := Lib.hid (fun (h : putInv u L j o false) hg => put_less hjl h hg)
        have HOn := Lib.hid (put_on (u := u) (o := o) HO.out hjl)
        rw [HUk.out] at HMo HLe
        generalize hX : L[j] = X at u0 u1 u2 u3 u4 u5 u6 u7 u8 HXi hxk HMo HLe HOn
        obtain ⟨xk, v, du, on, past⟩ := X
        simp only at u0 u1 u2 u3 u4 u5 u6 u7 u8 HXi hxk HMo HLe
        obtain ⟨A, hA⟩ : ∃ A : ByteArray, A = ⟨xk.toArray⟩ := ⟨_, rfl⟩
        have HC := Lib.hid (fun (W : World) => rec_new enE W W.heap.size (⟨xk, v, du, on, past⟩ : En PV) #[.string A, .int .u8 v.k, .string v.S, .slice v.ql v.nl v.cl, .slice v.qh v.nh v.ch, .slice v.qz v.nz v.cz, .int .i64 du, .bool on, .bool past] (by rw [hA]; rfl) rfl)
        have hE : (A.toList == K.toList) = false := by rw [key_eq hA HKh.out]; exact decide_eq_false hxk
        have hL : bytesLess A.toList K.toList = bytesLess xk k := key_less hA HKh.out
        rw [← hA] at u0 HXi
        have HXk := Lib.hid hxk
        clear hA hX hbl hxk
        cases B with
        | true =>
          have HI2 := Lib.hid (HOn.out HI.out)
          have HO1 := Lib.hid (HOw.out.keep (show Below wr.heap.size wr (wr.alloc (.cells #[.string A, .int .u8 v.k, .string v.S, .slice v.ql v.nl v.cl, .slice v.qh v.nh v.ch, .slice v.qz v.nz v.cz, .int .i64 du, .bool on, .bool past] enE.ty)) from (Below.refl _ _).alloc (Nat.le_refl _) _))
          have HBa := Lib.hid (HB.out.alloc HB.out.size (.cells #[.string A, .int .u8 v.k, .string v.S, .slice v.ql v.nl v.cl, .slice v.qh v.nh v.ch, .slice v.qz v.nz v.cz, .int .i64 du, .bool on, .bool past] enE.ty))
          have hol2 : o.length ≤ 1048576 := by omega
          clear hE hL
          go_wp2_with (at_builtin; refine wpList_append_r enE (w0 := w4) rfl (.tmp 70) (.tmp 78) rfl _ _ rfl HO1.out HBa.out wr.heap.size (⟨xk, v, du, on, past⟩ : En PV) 1 rfl (HC.out wr) hol2 ?_; intro v' w5 hown1 hb5)
          go_roundw
          case rel => exact ⟨j + 1, true, _, by omega, by go_num, rfl, HI2, Lib.hid hown1, Lib.hid hb5⟩
          case measure => simp [intOf]; omega
        | false =>
          cases hlk : bytesLess xk k with
          | true =>
            rw [hlk] at hL
            have HI2 := Lib.hid (HLe.out HI.out hlk)
            have HO1 := Lib.hid (HOw.out.keep (show Below wr.heap.size wr (wr.alloc (.cells #[.string A, .int .u8 v.k, .string v.S, .slice v.ql v.nl v.cl, .slice v.qh v.nh v.ch, .slice v.qz v.nz v.cz, .int .i64 du, .bool on, .bool past] enE.ty)) from (Below.refl _ _).alloc (Nat.le_refl _) _))
            have HBa := Lib.hid (HB.out.alloc HB.out.size (.cells #[.string A, .int .u8 v.k, .string v.S, .slice v.ql v.nl v.cl, .slice v.qh v.nh v.ch, .slice v.qz v.nz v.cz, .int .i64 du, .bool on, .bool past] enE.ty))
            have hol2 : o.length ≤ 1048576 := by omega
            clear hlk
            go_wp2_with (at_builtin; refine wpList_append_r enE (w0 := w4) rfl (.tmp 70) (.tmp 78) rfl _ _ rfl HO1.out HBa.out wr.heap.size (⟨xk, v, du, on, past⟩ : En PV) 1 rfl (HC.out wr) hol2 ?_; intro v' w5 hown1 hb5)
            go_roundw
            case rel => exact ⟨j + 1, false, _, by omega, by go_num, rfl, HI2, Lib.hid hown1, Lib.hid hb5⟩
            case measure => simp [intOf]; omega
          | false =>
            rw [hlk] at hL
            have hgt : bytesLess k xk = true := by
              rcases (geq_iff xk k).1 hlk with h | h
              · exact absurd h.symm HXk.out
              · exact h
            have HI2 := Lib.hid (HMo.out HI.out hgt)
            have HO1 := Lib.hid (HOw.out.keep (show Below wr.heap.size wr (wr.alloc (.cells #[.string K, .int .u8 p0, .string p1, .slice pl pn pc, .slice hl hn hc, .slice zl zn zc, .int .i64 0, .bool false, .bool false] enE.ty)) from (Below.refl _ _).alloc (Nat.le_refl _) _))
            have HBa := Lib.hid (HB.out.alloc HB.out.size (.cells #[.string K, .int .u8 p0, .string p1, .slice pl pn pc, .slice hl hn hc, .slice zl zn zc, .int .i64 0, .bool false, .bool false] enE.ty))
            have HCu := Lib.hid (rec_new enE wr wr.heap.size u #[.string K, .int .u8 p0, .string p1, .slice pl pn pc, .slice hl hn hc, .slice zl zn zc, .int .i64 0, .bool false, .bool false] (by rw [HU.out]) rfl)
            have hol2 : o.length ≤ 1048576 := by omega
            have hol3 : (o ++ [u]).length ≤ 1048576 := by rw [List.length_append]; simp; omega
            clear hlk hgt
            go_wp2_with (first
              | (at_builtin; refine wpList_append_r enE (w0 := w4) rfl (.tmp 64) (.tmp 68) rfl _ _ rfl HO1.out HBa.out wr.heap.size u 1 rfl HCu.out hol2 ?_; intro v' w5 hown1 hb5
                 have HO5 := Lib.hid (hown1.keep (show Below w5.heap.size w5 (w5.alloc (.cells #[.string A, .int .u8 v.k, .string v.S, .slice v.ql v.nl v.cl, .slice v.qh v.nh v.ch, .slice v.qz v.nz v.cz, .int .i64 du, .bool on, .bool past] enE.ty)) from (Below.refl _ _).alloc (Nat.le_refl _) _))
                 have HB5 := Lib.hid (hb5.alloc hb5.size (.cells #[.string A, .int .u8 v.k, .string v.S, .slice v.ql v.nl v.cl, .slice v.qh v.nh v.ch, .slice v.qz v.nz v.cz, .int .i64 du, .bool on, .bool past] enE.ty))
                 have HX5 := Lib.hid (HXi.out w5 hb5)
                 have HY5 := Lib.hid (HRk.out w5 hb5).1
                 clear hown1 hb5 u0 u1 u2 u3 u4 u5 u6 u7 u8 c0 c1 c2
                 obtain ⟨u0, u1, u2, u3, u4, u5, u6, u7, u8⟩ := HX5.out
                 obtain ⟨c0, c1, c2⟩ := HY5.out)
              | (at_builtin; refine wpList_append_r enE (w0 := w4) rfl (.tmp 70) (.tmp 78) rfl _ _ rfl HO5.out HB5.out w5.heap.size (⟨xk, v, du, on, past⟩ : En PV) 1 rfl (HC.out w5) hol3 ?_; intro v'' w6 hown2 hb6))
            go_roundw
            case rel => exact ⟨j + 1, true, _, by omega, by go_num, rfl, HI2, Lib.hid hown2, Lib.hid hb6⟩
            case measure => simp [intOf]; omega
      · obtain rfl : j = nl' := by omega
        have d1 : decide ((j : Int) < (j : Int)) = false := decide_eq_false (by omega)
        have HI2 := Lib.hid (show putInv u L L.length o B by rw [HN.out]; exact HI.out)
        cases B with
        | true =>
          have HPo := Lib.hid (show putP k ⟨p0, p1, pl, pn, pc, hl, hn, hc, zl, zn, zc, pd⟩ P = o by rw [HP.out, (put_end HI2.out).2 rfl])
          obtain ⟨q5, c5, hv, hr5, ha5⟩ := rowY_of HOw.out
          subst hv
          generalize o.length = n5 at hr5 hol ⊢
          have HE5 := Lib.hid (yr_row HY4.out HB.out hr5 ha5)
          clear c0 c1 c2 z0 z1 z2 z3 z4 hr5 ha5
          obtain ⟨c0, c1, c2⟩ := HE5.out.1
          have f0 := HE5.out.2.1
          go_wp2_with fail
          go_end0
          exact ⟨rfl, _, _, _, qc', nc', cc', Q', by rw [HPo.out]; exact HE5.out.2.2.1, HS4.out.trans HE5.out.2.2.2, HC4.out, HL4.out⟩
        | false =>
          have HPo := Lib.hid (show putP k ⟨p0, p1, pl, pn, pc, hl, hn, hc, zl, zn, zc, pd⟩ P = o ++ [u] by rw [HP.out, (put_end HI2.out).1 rfl])
          have HO1 := Lib.hid (HOw.out.keep (show Below wr.heap.size wr (wr.alloc (.cells #[.string K, .int .u8 p0, .string p1, .slice pl pn pc, .slice hl hn hc, .slice zl zn zc, .int .i64 0, .bool false, .bool false] enE.ty)) from (Below.refl _ _).alloc (Nat.le_refl _) _))
          have HBa := Lib.hid (HB.out.alloc HB.out.size (.cells #[.string K, .int .u8 p0, .string p1, .slice pl pn pc, .slice hl hn hc, .slice zl zn zc, .int .i64 0, .bool false, .bool false] enE.ty))
          have HCu := Lib.hid (rec_new enE wr wr.heap.size u #[.string K, .int .u8 p0, .string p1, .slice pl pn pc, .slice hl hn hc, .slice zl zn zc, .int .i64 0, .bool false, .bool false] (by rw [HU.out]) rfl)
          have hol2 : o.length ≤ 1048576 := by omega
          go_wp2_with (at_builtin; refine wpList_append_r enE (w0 := w4) rfl (.tmp 82) (.tmp 86) rfl _ _ rfl HO1.out HBa.out wr.heap.size u 1 rfl HCu.out hol2 ?_; intro v' w5 hown1 hb5
                       obtain ⟨q5, c5, hv, hr5, ha5⟩ := rowY_of hown1
                       subst hv
                       generalize (o ++ [u]).length = n5 at hr5 ⊢
                       have HE5 := Lib.hid (yr_row HY4.out hb5 hr5 ha5)
                       clear c0 c1 c2 z0 z1 z2 z3 z4 hr5 ha5 hown1 hb5
                       obtain ⟨c0, c1, c2⟩ := HE5.out.1
                       have f0 := HE5.out.2.1)
          go_end0
          exact ⟨rfl, _, _, _, qc', nc', cc', Q', by rw [HPo.out]; exact HE5.out.2.2.1, HS4.out.trans HE5.out.2.2.2, HC4.out, HL4.out⟩
  · have HPe := Lib.hid (let_there HO0.out hlk)
    have hi' : i < P.length := by rw [← HPe.out]; exact hi
    have hk' : P[i].key = k := by
      have h := hk
      simp only [HPe.out] at h
      exact h
    have HY2 := Lib.hid (show YR w4 y ql' nl' cl' qc' nc' cc' P Q' t by have h := HY4.out; rwa [HPe.out] at h)
    have hlk' : lookE k (letL k P) = some P[i] := by
      rw [hlk]
      simp only [HPe.out]
    have HP := Lib.hid (show putP k ⟨p0, p1, pl, pn, pc, hl, hn, hc, zl, zn, zc, pd⟩ P = P.set i { P[i] with v := ⟨p0, p1, pl, pn, pc, hl, hn, hc, zl, zn, zc, pd⟩ } by
      unfold putP
      rw [hlk']
      exact ins_rm HO0.out { P[i] with v := ⟨p0, p1, pl, pn, pc, hl, hn, hc, zl, zn, zc, pd⟩ } hk' hi' hk')
    have HNp := Lib.hid (show P.length = nl' from HY2.out.rl.len)
    have hi0 : (0 : Int) ≤ (i : Int) := by omega
    have hi1 : (i : Int) < (nl' : Int) := by have := HNp.out; omega
    obtain ⟨g, hg⟩ := some_row HY2.out hi'
    subst hg
    obtain ⟨⟨-, u1, u2, u3, u4, u5, -⟩, hfz⟩ := yr_room HY2.out i hi'
    have hyg : ¬ y = g := fun e => HY2.out.yl _ rfl e.symm
    have hgy : ¬ g = y := fun e => HY2.out.yl _ rfl e
    clear hlk hlk' hk hk' hi HFl HLl HN HPe HY4 HNp
    have hch := fun (W : World) (hW : YR W y (some ⟨g, 0, none⟩) nl' cl' qc' nc' cc' P Q' t) => (by
      have e1 := yr_entry hW i 1 { P[i] with v := { P[i].v with k := p0 } } (.int .u8 p0) hi' (by decide) rfl
      have e2 := yr_entry e1.1 i 2 { P[i] with v := { P[i].v with k := p0, S := p1 } } (.string p1) (by simpa using hi') (by decide) (by simp [enE])
      have e3 := yr_entry e2.1 i 3 { P[i] with v := { P[i].v with k := p0, S := p1, ql := pl, nl := pn, cl := pc } } (.slice pl pn pc) (by simpa using hi') (by decide) (by simp [enE])
      have e4 := yr_entry e3.1 i 4 { P[i] with v := { P[i].v with k := p0, S := p1, ql := pl, nl := pn, cl := pc, qh := hl, nh := hn, ch := hc } } (.slice hl hn hc) (by simpa using hi') (by decide) (by simp [enE])
      have e5 := yr_entry e4.1 i 5 { P[i] with v := ⟨p0, p1, pl, pn, pc, hl, hn, hc, zl, zn, zc, pd⟩ } (.slice zl zn zc) (by simpa using hi') (by decide) (by simp [enE])
      refine ⟨?_, (((e1.2.trans e2.2).trans e3.2).trans e4.2).trans e5.2⟩
      have h := e5.1
      simp only [List.set_set] at h
      exact h :
        YR (((((W.setCell ⟨g, i * 9 + 1, none⟩ (.int .u8 p0)).setCell ⟨g, i * 9 + 2, none⟩ (.string p1)).setCell ⟨g, i * 9 + 3, none⟩ (.slice pl pn pc)).setCell ⟨g, i * 9 + 4, none⟩ (.slice hl hn hc)).setCell ⟨g, i * 9 + 5, none⟩ (.slice zl zn zc)) y (some ⟨g, 0, none⟩) nl' cl' qc' nc' cc' (P.set i { P[i] with v := ⟨p0, p1, pl, pn, pc, hl, hn, hc, zl, zn, zc, pd⟩ }) Q' t ∧
        YStep W y (some ⟨g, 0, none⟩) qc' (((((W.setCell ⟨g, i * 9 + 1, none⟩ (.int .u8 p0)).setCell ⟨g, i * 9 + 2, none⟩ (.string p1)).setCell ⟨g, i * 9 + 3, none⟩ (.slice pl pn pc)).setCell ⟨g, i * 9 + 4, none⟩ (.slice hl hn hc)).setCell ⟨g, i * 9 + 5, none⟩ (.slice zl zn zc)) (some ⟨g, 0, none⟩) qc')
    have HCh := Lib.hid hch
    clear hch
    generalize P[i].v = pv at u1 u2 u3 u4 u5
    go_wp2_with fail
    refine wp_region_quiet_tail_lit 8 (by kernel_rfl) (by kernel_rfl) ?_
    simp only [List.take_succ_cons, List.take_zero, List.drop_succ_cons, List.drop_zero]
    repeat (go_big_quiet_step (fail))
    refine wpQuiet_nil ?_
    rintro _ ⟨nq, rfl⟩
    have HYq := Lib.hid (HCh.out (w4.drewN nq) (HY2.out.same (fun _ _ => rfl)))
    have HOf := Lib.hid (show YStep w4 y (some ⟨g, 0, none⟩) qc' (w4.drewN nq) (some ⟨g, 0, none⟩) qc' from ⟨⟨rfl, rfl, rfl, Nat.le_refl _, fun _ _ _ => rfl⟩, Gr.refl _ _⟩)
    have x1 : (w4.drewN nq).cell? ⟨g, i * 9 + 1, none⟩ = some (.int .u8 pv.k) := u1
    have x2 : (w4.drewN nq).cell? ⟨g, i * 9 + 2, none⟩ = some (.string pv.S) := u2
    have x3 : (w4.drewN nq).cell? ⟨g, i * 9 + 3, none⟩ = some (.slice pv.ql pv.nl pv.cl) := u3
    have x4 : (w4.drewN nq).cell? ⟨g, i * 9 + 4, none⟩ = some (.slice pv.qh pv.nh pv.ch) := u4
    have x5 : (w4.drewN nq).cell? ⟨g, i * 9 + 5, none⟩ = some (.slice pv.qz pv.nz pv.cz) := u5
    have f1 : (w4.drewN nq).frozen? ⟨g, i * 9 + 1, none⟩ = false := hfz _
    have f2 : (w4.drewN nq).frozen? ⟨g, i * 9 + 2, none⟩ = false := hfz _
    have f3 : (w4.drewN nq).frozen? ⟨g, i * 9 + 3, none⟩ = false := hfz _
    have f4 : (w4.drewN nq).frozen? ⟨g, i * 9 + 4, none⟩ = false := hfz _
    have f5 : (w4.drewN nq).frozen? ⟨g, i * 9 + 5, none⟩ = false := hfz _
    clear u1 u2 u3 u4 u5 c0 c1 c2 z0 z1 z2 z3 z4 hfz
    generalize w4.drewN nq = w5 at HYq HOf x1 x2 x3 x4 x5 f1 f2 f3 f4 f5 ⊢
    go_wp2_with fail
    (try simp only [Exit.inBlock, Exit.then])
    refine bodyPost_ret (results_none rfl _ _ _) rfl ?_
    exact ⟨rfl, _, _, _, qc', nc', cc', Q', by rw [HP.out]; exact HYq.out.1, (HS4.out.trans HOf.out).trans HYq.out.2, HC4.out, HL4.out⟩

end Go.Proofs.Ytbcjgkedlapmhaa.RefY
