/-
  StoreHeld: what is past is let go of, and that changes nothing else: two stores side by side of which one is purged all the time.
-/
import Derived.Test.YtbcjgkedlapmhaaStoSame
import Derived.Deep.RegionHeld
import Derived.Deep.CutBlock
import Derived.Deep.DeepCutAuto
namespace Go.Proofs.Ytbcjgkedlapmhaa.storeHeld
open Go.RowKit Kit StrT RowG BOrd ValT StoT StoM StoL RefV ValM
set_option linter.unusedVariables false
set_option maxRecDepth 100000
-- ASKS: 

set_option maxHeartbeats 40000000 in
theorem walk (q : Option Addr) (L : List OpR) (n c : Nat) (w : World) (hL : L.length = n) (h : Rs opE w q L) (hok : ∀ r ∈ L, r.Ok w) (hcm : n ≤ 9223372036854775807) :
    Calls Try.prog 7 #[.slice q n c] w fun e w' => e = .returned (.bool true) ∧ Below w.heap.size w w' := by
  have C0 := Lib.hid (shown_any w)
  have HU := Lib.hid h
  have HN := Lib.hid hL
  have HOk := Lib.hid hok
  clear h hL hok
  go_enter Try.func7, Try.ntmps7
  go_wp2_with fail
  refine C0.out.mono ?_
  rintro e w1 ⟨rfl, hb1⟩
  have CN := Lib.hid (tnew w w1 hb1)
  clear hb1 C0
  go_wp2_with fail
  refine CN.out.mono ?_
  rintro e w2 ⟨s, rfl, h2, -⟩
  have H2 := Lib.hid (h2.less (Y := fun _ => False) (fun k hk => hk.elim))
  have CN := Lib.hid (tsecond H2.out)
  clear h2 H2
  go_wp2_with fail
  refine CN.out.mono ?_
  rintro e w3 ⟨t, rfl, h3⟩
  have H2 := Lib.hid h3
  clear h3 CN
  go_wp2_with fail
  go_loopw [6] (fun i wr => ∃ (j : Nat) (D E : Sd V), j ≤ n ∧ j ≤ 40 ∧ i = .int .i64 (j : Int) ∧ Hid (D.n ≤ 10 * j) ∧ Hid (E.n ≤ 10 * j) ∧ Hid (Sm D E) ∧ Hid (Tw (SSt s) (SSt t) w (fun _ => False) wr D E)) (fun i _ => 41 - (intOf i).toNat)
  case atStart => exact ⟨0, s0, s0, Nat.zero_le _, Nat.zero_le _, rfl, Lib.hid (Nat.le_refl _), Lib.hid (Nat.le_refl _), Lib.hid sm_0, H2⟩
  case round =>
    clear H2
    obtain ⟨j, D, E, hj, hj2, rfl, HDn, HEn, HS, HT⟩ := hrel
    by_cases hlt : j < n
    · by_cases hlt2 : j < 40
      · have d1 : decide ((j : Int) < (n : Int)) = true := decide_eq_true (by omega)
        have d2 : decide ((j : Int) < 40) = true := decide_eq_true (by omega)
        have hj0 : (0 : Int) ≤ (j : Int) := by omega
        have hjn : (j : Int) < (n : Int) := by omega
        have hjl : j < L.length := by rw [HN.out]; exact hlt
        obtain ⟨b, off, rfl, hbl, u0, u1, u2, u3, u4, u5', u6, u7, u8⟩ := op_cells (HU.out.keep HT.out.below) j hjl
        have hokr := HOk.out _ (List.getElem_mem hjl)
        generalize L[j] = r at u0 u1 u2 u3 u4 u5' u6 u7 u8 hokr
        have HR := Lib.hid hokr
        have HCa := Lib.hid (OC.new wr r)
        have HTa := Lib.hid ((HT.out.on (sstb s) (sstb t) (show Below wr.heap.size wr (wr.alloc (.cells #[.int .u8 r.kd, .string ⟨r.key.toArray⟩, .int .u8 r.v.k, .string r.v.S, .slice r.v.ql r.v.nl r.v.cl, .slice r.v.qh r.v.nh r.v.ch, .slice r.v.qz r.v.nz r.v.cz, .int .i64 r.n, .bool r.on] 37)) from (Below.refl _ _).alloc (Nat.le_refl _) _)).1.less (Y := fun k => k = wr.heap.size) (fun k hk => by
          subst hk
          exact Or.inr ⟨Nat.le_refl _, HCa.out.lt⟩))
        have HDb := Lib.hid (show D.n + 10 ≤ 100000 by have := HDn.out; omega)
        have HEb := Lib.hid (show E.n + 10 ≤ 100000 by have := HEn.out; omega)
        have CK := Lib.hid (fun W => key_any ⟨r.key.toArray⟩ W (by show r.key.toArray.size ≤ _; rw [List.size_toArray]; exact hokr.ks))
        obtain ⟨rn0, rn1⟩ := hokr.n
        obtain ⟨kd0, kd1⟩ := hokr.kd
        obtain ⟨g, hg⟩ : ∃ g, g = wr.heap.size := ⟨_, rfl⟩
        rw [← hg] at HTa HCa
        clear hokr hbl
        go_wp2_with fail
        rw [← hg]
        generalize wr.alloc (.cells #[.int .u8 r.kd, .string ⟨r.key.toArray⟩, .int .u8 r.v.k, .string r.v.S, .slice r.v.ql r.v.nl r.v.cl, .slice r.v.qh r.v.nh r.v.ch, .slice r.v.qz r.v.nz r.v.cz, .int .i64 r.n, .bool r.on] 37) = w3 at HTa HCa ⊢
        obtain ⟨o0, o1, o2, o3, o4, o5, o6, o7, o8⟩ := HCa.out.at_
        clear hg u0 u1 u2 u3 u4 u5' u6 u7 u8 HT
        refine (CK.out _).mono ?_
        rintro e w4 ⟨⟨K, rfl, hK⟩, rfl⟩
        have hK2 := key_small hK
        clear hK CK o1
        obtain ⟨k, hK⟩ : ∃ k, MapF.KeyIs K k := ⟨_, hK2⟩
        have HK := Lib.hid hK
        clear hK hK2
        obtain ⟨rr, hrr⟩ : ∃ rr, r.kd % 8 = rr := ⟨_, rfl⟩
        have hrt : r.kd.tmod 8 = rr := by rw [Int.tmod_eq_emod_of_nonneg kd0]; exact hrr
        have hways : (rr = 3) ∨ (rr = 4) ∨ (rr = 5) ∨ ((rr == 3) = false ∧ (rr == 4) = false ∧ (rr == 5) = false) := by
          simp only [beq_eq_false_iff_ne]
          omega
        go_upto_block 2 with fail
        go_cut [] (fun wx => ∃ D' E' : Sd V, Hid (D'.n = D.n + 1) ∧ Hid (E'.n = E.n + 1) ∧ Hid (Sm D' E') ∧ Hid (Tw (SSt s) (SSt t) w (fun k => k = g) wx D' E'))
        case first =>
          rcases hways with rfl | rfl | rfl | ⟨s3, s4, s5⟩
          · have HDe := Lib.hid (due_n k r.n r.on D)
            have HEe := Lib.hid (due_n k r.n r.on E)
            have HSe := Lib.hid (HS.out.due k r.n r.on)
            have CC := Lib.hid (fun W (hW : Tw (SSt s) (SSt t) w (fun k => k = g) W D E) => tsetdue (sstb t) hW (by show D.n + 0 ≤ 100000; have := HDb.out; omega) K k r.n r.on HK.out)
            have CD := Lib.hid (fun W (hW : Tw (SSt s) (SSt t) w (fun k => k = g) W (setDueS k r.n r.on D) E) => (show Calls Try.prog 15 #[.pointer (some ⟨t, 0, none⟩), .string K, .int .i64 r.n, .bool r.on] W fun e w' => e = .returned (.bool (setDueB k D)) ∧ Tw (SSt s) (SSt t) w (fun k => k = g) w' (setDueS k r.n r.on D) (setDueS k r.n r.on E) ∧ Keep (fun k => k = g) W w' from by
              rw [(HS.out.vals k).2.2.1]
              exact vsetdue (sstb s) hW (by show E.n + 0 ≤ 100000; have := HEb.out; omega) K k r.n r.on HK.out))
            have xb : (setDueB k D != setDueB k D) = false := bne_self_eq_false _
            have HGd := Lib.hid ((HTa.out.on (sstb s) (sstb t) (Below.refl w4.heap.size w4).drew).1.less (Y := fun k => k = g) (fun k hk => Or.inl hk))
            have HGc := Lib.hid (HCa.out.below (Below.refl w4.heap.size w4).drew)
            go_wp2_with fail
            go_region_held (fun W => Hid (OC W g r) ∧ W.cell? ⟨g, 7, none⟩ = some (.int .i64 r.n) ∧ W.cell? ⟨g, 8, none⟩ = some (.bool r.on)) (first | exact ⟨by assumption, (Hid.out (by assumption : Hid (OC _ g r))).last⟩)
              (first
              | (go_at_call 15; (with_reducible refine (CC.out _ (Hid.out (by assumption))).mono ?_); rintro e w5 ⟨rfl, h5, hk5⟩; have H5 := Lib.hid h5; have HC5 := Lib.hid (OC.keep (Hid.out (by assumption)) hk5 rfl); clear h5 hk5)
              | (go_at_call 15; (with_reducible refine (CD.out _ H5.out).mono ?_); rintro e w6 ⟨rfl, h6, hk6⟩; have HTe := Lib.hid h6; have HC6 := Lib.hid (OC.keep (Hid.out (by assumption)) hk6 rfl); clear h6 hk6))
            go_wp2_with fail
            go_meet
            exact ⟨_, _, HDe, HEe, HSe, HTe⟩
          · have HDe := Lib.hid (show (tickS r.n D).n = D.n + 1 from rfl)
            have HEe := Lib.hid (show (tickS r.n E).n = E.n + 1 from rfl)
            have HSe := Lib.hid (HS.out.tick r.n)
            have CC := Lib.hid (ttick (sstb t) HTa.out (by show D.n + 0 ≤ 100000; have := HDb.out; omega) r.n rn0 rn1)
            go_wp2_with fail
            refine CC.out.mono ?_
            rintro e w5 ⟨rfl, h5, hk5⟩
            have H5 := Lib.hid (show Tw (SSt s) (SSt t) w _ w5 (tickS r.n D) E from h5)
            have HC5 := Lib.hid (HCa.out.keep hk5 rfl)
            have CD := Lib.hid (vtick (sstb s) H5.out (by show E.n + 0 ≤ 100000; have := HEb.out; omega) r.n rn0 rn1)
            clear CC h5 hk5 o0 o2 o3 o4 o5 o6 o7 o8
            obtain ⟨o0, -, o2, o3, o4, o5, o6, o7, o8⟩ := HC5.out.at_
            go_wp2_with fail
            refine CD.out.mono ?_
            rintro e w6 ⟨rfl, h6, -⟩
            have HTe := Lib.hid (show Tw (SSt s) (SSt t) w _ w6 (tickS r.n D) (tickS r.n E) from h6)
            clear CD h6 H5 HC5
            go_wp2_with fail
            go_meet
            exact ⟨_, _, HDe, HEe, HSe, HTe⟩
          · have HDe := Lib.hid (put_n k v0 D)
            have HEe := Lib.hid (put_n k v0 E)
            have HSe := Lib.hid (HS.out.put k v0)
            have CC := Lib.hid (tput (sstb t) HTa.out (by show D.n + 0 ≤ 100000; have := HDb.out; omega) K k HK.out pv0 (pv0_in _) (fun k hk => absurd hk (pv0_at k)) (Or.inl ⟨rfl, rfl, rfl, rfl, rfl⟩))
            go_wp2_with fail
            refine CC.out.mono ?_
            rintro e w5 ⟨rfl, h5, hk5⟩
            have H5 := Lib.hid (show Tw (SSt s) (SSt t) w _ w5 (putAny k v0 D) E from h5)
            have HC5 := Lib.hid (HCa.out.keep hk5 rfl)
            have CD := Lib.hid (vput (sstb s) H5.out (by show E.n + 0 ≤ 100000; have := HEb.out; omega) K k HK.out pv0 (pv0_in _) (fun k hk => absurd hk (pv0_at k)) (Or.inl ⟨rfl, rfl, rfl, rfl, rfl⟩))
            clear CC h5 hk5 o0 o2 o3 o4 o5 o6 o7 o8
            obtain ⟨o0, -, o2, o3, o4, o5, o6, o7, o8⟩ := HC5.out.at_
            go_wp2_with fail
            refine CD.out.mono ?_
            rintro e w6 ⟨rfl, h6, -⟩
            have HTe := Lib.hid (show Tw (SSt s) (SSt t) w _ w6 (putAny k v0 D) (putAny k v0 E) from h6)
            clear CD h6 H5 HC5
            go_wp2_with fail
            go_meet
            exact ⟨_, _, HDe, HEe, HSe, HTe⟩
          · have HDe := Lib.hid (put_n k (fitV r.v.d) D)
            have HEe := Lib.hid (put_n k (fitV r.v.d) E)
            have HSe := Lib.hid (HS.out.put k (fitV r.v.d))
            have CC := Lib.hid (rfit r.v.k r.v.S r.v.ql r.v.nl r.v.cl r.v.qh r.v.nh r.v.ch r.v.qz r.v.nz r.v.cz r.v.d _ (HR.out.v.keep HTa.out.below) HR.out.s)
            have hr := fit_right r.v.d
            obtain ⟨l1, l2, l3⟩ := fit_len r.v.d
            have hrk := right_kind hr
            have HF := Lib.hid (⟨hr, l1, l2, l3, hrk⟩ : right (fitV r.v.d) ∧ (fitV r.v.d).l.length ≤ 1048576 ∧ (fitV r.v.d).h.length ≤ 1048576 ∧ (fitV r.v.d).z.length ≤ 1048576 ∧ (fitV r.v.d).kind ≤ 5)
            clear hr l1 l2 l3 hrk
            go_wp2_with fail
            with_reducible refine CC.out.mono ?_
            rintro e w5 ⟨v, rfl, hv, hb5⟩
            obtain ⟨p1, rfl, hp1, hpd1, -, hpb1⟩ := pv_of hv (by have := HF.out.2.2.2.2; omega) HF.out.2.1 HF.out.2.2.1 HF.out.2.2.2.1
            have H5 := Lib.hid (HTa.out.on (sstb s) (sstb t) hb5).1
            have HC5 := Lib.hid (HCa.out.below hb5)
            have CP := Lib.hid (tput (sstb t) H5.out (by show D.n + 0 ≤ 100000; have := HDb.out; omega) K k HK.out p1 hp1 (fun k hk => Or.inr (hpb1 k hk)) (by rw [hpd1]; exact HF.out.1))
            rw [hpd1] at CP
            clear CC hv hb5 hp1 hpd1 hpb1
            unfold PV.agg
            unfold PV.agg at CP
            go_wp2_with fail
            refine CP.out.mono ?_
            rintro e w6 ⟨rfl, h6, hk6⟩
            have H6 := Lib.hid (h6.less (Y := fun k => k = g) (fun k hk => Or.inl hk))
            have HC6 := Lib.hid (HC5.out.keep hk6 (Or.inl rfl))
            have CC := Lib.hid (rfit r.v.k r.v.S r.v.ql r.v.nl r.v.cl r.v.qh r.v.nh r.v.ch r.v.qz r.v.nz r.v.cz r.v.d _ (HR.out.v.keep H6.out.below) HR.out.s)
            clear CP h6 hk6 H5 HC5 o0 o2 o3 o4 o5 o6 o7 o8
            obtain ⟨o0, -, o2, o3, o4, o5, o6, o7, o8⟩ := HC6.out.at_
            go_wp2_with fail
            with_reducible refine CC.out.mono ?_
            rintro e w7 ⟨v, rfl, hv, hb7⟩
            obtain ⟨p2, rfl, hp2, hpd2, -, hpb2⟩ := pv_of hv (by have := HF.out.2.2.2.2; omega) HF.out.2.1 HF.out.2.2.1 HF.out.2.2.2.1
            have H7 := Lib.hid (H6.out.on (sstb s) (sstb t) hb7).1
            have CP := Lib.hid (vput (sstb s) H7.out (by show E.n + 0 ≤ 100000; have := HEb.out; omega) K k HK.out p2 hp2 (fun k hk => Or.inr (hpb2 k hk)) (by rw [hpd2]; exact HF.out.1))
            rw [hpd2] at CP
            clear CC hv hb7 hp2 hpd2 hpb2
            unfold PV.agg
            unfold PV.agg at CP
            go_wp2_with fail
            refine CP.out.mono ?_
            rintro e w8 ⟨rfl, h8, -⟩
            have HTe := Lib.hid (h8.less (Y := fun k => k = g) (fun k hk => Or.inl hk))
            clear CP h8 H7 H6 HC6 HF
            go_wp2_with fail
            go_meet
            exact ⟨_, _, HDe, HEe, HSe, HTe⟩
        case rest =>
          obtain ⟨D1, E1, HD1, HE1, HS1, HTe⟩ := hcut
          have HDi := Lib.hid (show D1.n + 9 ≤ 100000 by have := HDb.out; have := HD1.out; omega)
          have HEi := Lib.hid (show E1.n + 9 ≤ 100000 by have := HEb.out; have := HE1.out; omega)
          have HDj := Lib.hid (show D1.n + 2 ≤ 10 * (j + 1) by have := HDn.out; have := HD1.out; omega)
          have HEj := Lib.hid (show E1.n + 3 ≤ 10 * (j + 1) by have := HEn.out; have := HE1.out; omega)
          have HTf := Lib.hid (HTe.out.less (Y := fun _ => False) (fun k hk => hk.elim))
          clear hways HDb HEb HR HCa HTa hrt hrr HD1 HE1 HDn HEn HTe HS
          clear o0 o2 o3 o4 o5 o6 o7 o8
          have HS2 := Lib.hid (HS1.out.purge)
          have hv := HS2.out.vals k
          have HV := Lib.hid hv
          clear hv
          have CC := Lib.hid (vpurge (sstb s) HTf.out (by have := HEi.out; omega))
          generalize purgeN E1 = pn at CC
          go_wp2_with fail
          refine CC.out.mono ?_
          rintro e wa ⟨rfl, hx, -⟩
          have HE2n := Lib.hid (show (purgeS E1).n = E1.n + 1 from rfl)
          have HHp := Lib.hid (held_purge E1)
          obtain ⟨E2, hE2⟩ : ∃ E2, E2 = purgeS E1 := ⟨_, rfl⟩
          rw [← hE2] at hx HS2 HV HE2n HHp
          have HT1 := Lib.hid hx
          have HEk := Lib.hid (show E2.n + 8 ≤ 100000 by have := HEi.out; have := HE2n.out; omega)
          have HEl := Lib.hid (show E2.n + 2 ≤ 10 * (j + 1) by have := HEj.out; have := HE2n.out; omega)
          have HW := Lib.hid (twf HT1.out)
          clear hx hE2 HTf HEi HEj HE2n HS1 CC
          have CA := Lib.hid (tkeys (sstb t) HT1.out (by have := HDi.out; omega))
          go_wp2_with fail
          with_reducible refine CA.out.mono ?_
          rintro e wb ⟨q1, c1, rfl, hR1, -, -, -, hT1, -⟩
          have HT2 := Lib.hid hT1
          have HR1 := Lib.hid hR1
          have CB := Lib.hid (vkeys (sstb s) HT2.out (by have := HEk.out; omega))
          clear hT1 hR1 CA HT1
          go_wp2_with fail
          with_reducible refine CB.out.mono ?_
          rintro e wc ⟨q2, c2, rfl, hR2, -, -, -, hT2, hK2⟩
          have HT3 := Lib.hid hT2
          have CT := Lib.hid (StrS.same_texts q1 q2 (keysS D1.L) (keysS E2.L) _ _ c1 c2 wc rfl rfl (rs_ss.1 (Rs.same HR1.out hK2.1 (fun h0 a ha => hK2.2 _ (Or.inr ⟨h0, a, ha, rfl⟩)))) (rs_ss.1 hR2) (by
            have h1 := keys_le D1.L
            have h2 := HW.out.len
            have h3 := HDi.out
            omega))
          rw [decide_eq_true HV.out.2.2.2] at CT
          clear hT2 hR2 hK2 CB HT2 HR1
          go_wp2_with fail
          refine CT.out.mono ?_
          rintro e wd ⟨rfl, hbc⟩
          have HT4 := Lib.hid ((HT3.out.on (sstb s) (sstb t) hbc).1.less (Y := fun _ => False) (fun k hk => hk.elim))
          clear hbc CT HT3
          obtain ⟨kd, hkd⟩ : ∃ kd, kd = (keysS D1.L).length := ⟨_, rfl⟩
          obtain ⟨hd, hhd⟩ : ∃ hd, hd = D1.L.length := ⟨_, rfl⟩
          obtain ⟨ke, hke⟩ : ∃ ke, ke = (keysS E2.L).length := ⟨_, rfl⟩
          have hh : kd ≤ hd := by rw [hkd, hhd]; exact keys_le D1.L
          have x1 : ((ke : Int) != (ke : Int)) = false := bne_self_eq_false _
          have x2 : decide ((hd : Int) < (kd : Int)) = false := decide_eq_false (by omega)
          have x4 : decide (hd < kd) = false := decide_eq_false (by omega)
          have x5 : ¬ (hd : Int) < (kd : Int) := by omega
          have x3 : ((D1.C k : Int) != (D1.C k : Int)) = false := bne_self_eq_false _
          have HKD := Lib.hid hkd
          have HHD := Lib.hid hhd
          have HKE := Lib.hid hke
          clear hkd hhd hke hh
          have CC := Lib.hid (vheld (sstb s) HT4.out (by have := HEk.out; omega))
          rw [← HHp.out, ← HKE.out] at CC
          go_wp2_with fail
          refine CC.out.mono ?_
          rintro e we ⟨rfl, hx, -⟩
          have HT5 := Lib.hid hx
          clear CC hx HT4
          have CC := Lib.hid (vkeys (sstb s) HT5.out (by have := HEk.out; omega))
          go_wp2_with fail
          with_reducible refine CC.out.mono ?_
          rintro e wf ⟨q3, c3, rfl, -, -, -, -, hx, -⟩
          rw [← HKE.out]
          have HT6 := Lib.hid (hx.less (Y := fun _ => False) (fun k hk => hk.elim))
          clear CC hx HT5
          have CC := Lib.hid (theld (sstb t) HT6.out (by have := HDi.out; omega))
          rw [← HHD.out] at CC
          go_wp2_with fail
          refine CC.out.mono ?_
          rintro e wg ⟨rfl, hx, -⟩
          have HT7 := Lib.hid hx
          clear CC hx HT6
          have CC := Lib.hid (tkeys (sstb t) HT7.out (by have := HDi.out; omega))
          go_wp2_with fail
          with_reducible refine CC.out.mono ?_
          rintro e wh ⟨q4, c4, rfl, -, -, -, -, hx, -⟩
          rw [← HKD.out]
          have HT8 := Lib.hid (hx.less (Y := fun _ => False) (fun k hk => hk.elim))
          clear CC hx HT7
          have CC := Lib.hid (tversion (sstb t) HT8.out (by have := HDi.out; omega) K k HK.out)
          go_wp2_with fail
          refine CC.out.mono ?_
          rintro e wi ⟨rfl, hx, -⟩
          have HT9 := Lib.hid hx
          clear CC hx HT8
          have CC := Lib.hid (vversion (sstb s) HT9.out (by have := HEk.out; omega) K k HK.out)
          rw [← HS2.out.c] at CC
          go_wp2_with fail
          refine CC.out.mono ?_
          rintro e wj ⟨rfl, hx, -⟩
          have HT10 := Lib.hid hx
          clear CC hx HT9
          obtain ⟨da, hda⟩ : ∃ da, da = (dueV k D1.L).1 := ⟨_, rfl⟩
          obtain ⟨db, hdb⟩ : ∃ db, db = (dueV k D1.L).2 := ⟨_, rfl⟩
          have HDa := Lib.hid hda
          have HDB := Lib.hid hdb
          have xa : (da != da) = false := bne_self_eq_false _
          have xb : (db != db) = false := bne_self_eq_false _
          clear hda hdb x1 x2 x3 x4 x5
          have CC := Lib.hid (tdue (sstb t) HT10.out (by have := HDi.out; omega) K k HK.out)
          rw [← HDa.out, ← HDB.out] at CC
          go_wp2_with fail
          refine CC.out.mono ?_
          rintro e wk ⟨rfl, hx, -⟩
          have HT11 := Lib.hid hx
          clear CC hx HT10
          have CC := Lib.hid (vdue (sstb s) HT11.out (by have := HEk.out; omega) K k HK.out)
          rw [← HV.out.2.1, ← HDa.out, ← HDB.out] at CC
          go_wp2_with fail
          refine CC.out.mono ?_
          rintro e wl ⟨rfl, hx, -⟩
          have HT12 := Lib.hid hx
          have HS3 := Lib.hid (HS2.out.get k)
          have HVg := Lib.hid ((HS3.out.vals k).1)
          clear CC hx HT11
          have CC := Lib.hid (tget (sstb t) HT12.out (by show D1.n + 1 ≤ 100000; have := HDi.out; omega) K k HK.out)
          go_wp2_with fail
          with_reducible refine CC.out.mono ?_
          rintro e wm ⟨p1, rfl, hp1, hd1, h5, -⟩
          have H5 := Lib.hid h5
          have CD := Lib.hid (vget (sstb s) H5.out (by show E2.n + 1 ≤ 100000; have := HEk.out; omega) K k HK.out)
          unfold PV.agg
          clear CC h5 HT12
          go_wp2_with fail
          with_reducible refine CD.out.mono ?_
          rintro e wn ⟨p2, rfl, hp2, hd2, h6, hk6⟩
          have CS := Lib.hid (same_any p1.k p1.S p1.ql p1.nl p1.cl p1.qh p1.nh p1.ch p1.qz p1.nz p1.cz p1.d p2.k p2.S p2.ql p2.nl p2.cl p2.qh p2.nh p2.ch p2.qz p2.nz p2.cz p2.d wn (hp1.same hk6.1 (fun k hk => hk6.2 k (Or.inr hk))) hp2)
          rw [show sameB p1.d p2.d = true from decide_eq_true (hd1.trans (by rw [HVg.out]; exact hd2.symm))] at CS
          have H6 := Lib.hid h6
          unfold PV.agg
          clear CD h6 hk6 hp1 hp2 hd1 hd2 H5
          go_wp2_with fail
          refine CS.out.mono ?_
          rintro e wo ⟨rfl, hb7⟩
          have HTz := Lib.hid ((H6.out.on (sstb s) (sstb t) hb7).1.less (Y := fun _ => False) (fun k hk => hk.elim))
          clear CS hb7 H6
          have HSz := Lib.hid (HS3.out.get k)
          go_wp2_with fail
          go_roundw
          case rel => exact ⟨j + 1, getS k (getS k D1), getS k (getS k E2), by omega, by omega, by go_num, Lib.hid (by show D1.n + 2 ≤ _; exact HDj.out), Lib.hid (by show E2.n + 2 ≤ _; exact HEl.out), HSz, HTz⟩
          case measure => simp [intOf]; omega
      · obtain rfl : j = 40 := by omega
        have d1 : decide (((40 : Nat) : Int) < (n : Int)) = true := decide_eq_true (by omega)
        have d1' : (40 : Int) < (n : Int) := by omega
        have HB := Lib.hid HT.out.below
        obtain ⟨kl, hkl⟩ : ∃ kl, kl = (keysS D.L).length := ⟨_, rfl⟩
        obtain ⟨pn, hpn⟩ : ∃ pn, pn = purgeN D := ⟨_, rfl⟩
        have hle := keys_le D.L
        have hpp := purge_n D
        have hwl := (twf HT.out).len
        have HKl := Lib.hid hkl
        have HPn := Lib.hid hpn
        have HHl := Lib.hid (show D.L.length = kl + pn by omega)
        have hkb : kl + pn ≤ 100000 := by have := HDn.out; omega
        have HPl := Lib.hid (show (purgeS D).L.length = kl by rw [← held_purge, hkl]; rw [keys_live, keys_live]; show ((live (live D.L)).map (·.key)).length = _; rw [live_live])
        have HPk := Lib.hid (show (keysS (purgeS D).L).length = kl by rw [held_purge]; exact HPl.out)
        have HDb := Lib.hid (show D.n + 10 ≤ 100000 by have := HDn.out; omega)
        have y0 : (0 : Int) ≤ (kl : Int) := by omega
        have y1 : (0 : Int) ≤ (pn : Int) := by omega
        have y2 : (kl : Int) + (pn : Int) ≤ 100000 := by omega
        have y3 : ((kl : Int) + (pn : Int) - (kl : Int)) = (pn : Int) := by omega
        have y4 : ((pn : Int) == (pn : Int)) = true := beq_self_eq_true _
        have y5 : ((kl : Int) == (kl : Int)) = true := beq_self_eq_true _
        clear hkl hpn hle hpp hwl hkb HDn HEn HS
        have CC := Lib.hid (theld (sstb t) HT.out (by have := HDb.out; omega))
        rw [HHl.out, Int.natCast_add] at CC
        go_wp2_with fail
        refine CC.out.mono ?_
        rintro e wa ⟨rfl, hx, -⟩
        have HT1 := Lib.hid hx
        clear CC hx HT
        have CC := Lib.hid (tkeys (sstb t) HT1.out (by have := HDb.out; omega))
        go_wp2_with fail
        with_reducible refine CC.out.mono ?_
        rintro e wb ⟨q4, c4, rfl, -, -, -, -, hx, -⟩
        rw [← HKl.out]
        have HT2 := Lib.hid (hx.less (Y := fun _ => False) (fun k hk => hk.elim))
        clear CC hx HT1
        have CC := Lib.hid (tpurge (sstb t) HT2.out (by have := HDb.out; omega))
        rw [← HPn.out] at CC
        go_wp2_with fail
        refine CC.out.mono ?_
        rintro e wc ⟨rfl, hx, -⟩
        have HT3 := Lib.hid hx
        clear CC hx HT2
        have CC := Lib.hid (theld (sstb t) HT3.out (by show D.n + 1 ≤ 100000; have := HDb.out; omega))
        rw [HPl.out] at CC
        go_wp2_with fail
        refine CC.out.mono ?_
        rintro e wd ⟨rfl, hx, -⟩
        have HT4 := Lib.hid hx
        clear CC hx HT3
        have CC := Lib.hid (tkeys (sstb t) HT4.out (by show D.n + 1 ≤ 100000; have := HDb.out; omega))
        go_wp2_with fail
        with_reducible refine CC.out.mono ?_
        rintro e we ⟨q5, c5, rfl, -, -, -, -, hx, -⟩
        rw [HPk.out]
        have HB2 := Lib.hid hx.below
        clear CC hx HT4
        go_wp2_with fail
        go_ret
        exact ⟨rfl, HB2.out⟩
    · have d1 : decide ((j : Int) < (n : Int)) = false := decide_eq_false (by omega)
      have HB := Lib.hid HT.out.below
      obtain ⟨kl, hkl⟩ : ∃ kl, kl = (keysS D.L).length := ⟨_, rfl⟩
      obtain ⟨pn, hpn⟩ : ∃ pn, pn = purgeN D := ⟨_, rfl⟩
      have hle := keys_le D.L
      have hpp := purge_n D
      have hwl := (twf HT.out).len
      have HKl := Lib.hid hkl
      have HPn := Lib.hid hpn
      have HHl := Lib.hid (show D.L.length = kl + pn by omega)
      have hkb : kl + pn ≤ 100000 := by have := HDn.out; omega
      have HPl := Lib.hid (show (purgeS D).L.length = kl by rw [← held_purge, hkl]; rw [keys_live, keys_live]; show ((live (live D.L)).map (·.key)).length = _; rw [live_live])
      have HPk := Lib.hid (show (keysS (purgeS D).L).length = kl by rw [held_purge]; exact HPl.out)
      have HDb := Lib.hid (show D.n + 10 ≤ 100000 by have := HDn.out; omega)
      have y0 : (0 : Int) ≤ (kl : Int) := by omega
      have y1 : (0 : Int) ≤ (pn : Int) := by omega
      have y2 : (kl : Int) + (pn : Int) ≤ 100000 := by omega
      have y3 : ((kl : Int) + (pn : Int) - (kl : Int)) = (pn : Int) := by omega
      have y4 : ((pn : Int) == (pn : Int)) = true := beq_self_eq_true _
      have y5 : ((kl : Int) == (kl : Int)) = true := beq_self_eq_true _
      clear hkl hpn hle hpp hwl hkb HDn HEn HS
      have CC := Lib.hid (theld (sstb t) HT.out (by have := HDb.out; omega))
      rw [HHl.out, Int.natCast_add] at CC
      go_wp2_with fail
      refine CC.out.mono ?_
      rintro e wa ⟨rfl, hx, -⟩
      have HT1 := Lib.hid hx
      clear CC hx HT
      have CC := Lib.hid (tkeys (sstb t) HT1.out (by have := HDb.out; omega))
      go_wp2_with fail
      with_reducible refine CC.out.mono ?_
      rintro e wb ⟨q4, c4, rfl, -, -, -, -, hx, -⟩
      rw [← HKl.out]
      have HT2 := Lib.hid (hx.less (Y := fun _ => False) (fun k hk => hk.elim))
      clear CC hx HT1
      have CC := Lib.hid (tpurge (sstb t) HT2.out (by have := HDb.out; omega))
      rw [← HPn.out] at CC
      go_wp2_with fail
      refine CC.out.mono ?_
      rintro e wc ⟨rfl, hx, -⟩
      have HT3 := Lib.hid hx
      clear CC hx HT2
      have CC := Lib.hid (theld (sstb t) HT3.out (by show D.n + 1 ≤ 100000; have := HDb.out; omega))
      rw [HPl.out] at CC
      go_wp2_with fail
      refine CC.out.mono ?_
      rintro e wd ⟨rfl, hx, -⟩
      have HT4 := Lib.hid hx
      clear CC hx HT3
      have CC := Lib.hid (tkeys (sstb t) HT4.out (by show D.n + 1 ≤ 100000; have := HDb.out; omega))
      go_wp2_with fail
      with_reducible refine CC.out.mono ?_
      rintro e we ⟨q5, c5, rfl, -, -, -, -, hx, -⟩
      rw [HPk.out]
      have HB2 := Lib.hid hx.below
      clear CC hx HT4
      go_wp2_with fail
      go_ret
      exact ⟨rfl, HB2.out⟩

end Go.Proofs.Ytbcjgkedlapmhaa.storeHeld
