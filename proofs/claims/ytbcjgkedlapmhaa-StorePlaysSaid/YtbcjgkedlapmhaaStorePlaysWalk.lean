/-
  StorePlays: whatever is done to a store, what it answers is as the document says: the landed store and the document's own, side by side.
-/
import Derived.Test.YtbcjgkedlapmhaaStoPlay
import Derived.Deep.RegionHeld
import Derived.Deep.CutBlock
import Derived.Deep.DeepCutAuto
namespace Go.Proofs.Ytbcjgkedlapmhaa.storePlays
open Go.RowKit Kit StrT RowG BOrd ValT StoT StoM StoL RefV RefY
set_option linter.unusedVariables false
set_option maxRecDepth 100000
-- ASKS: 

set_option maxHeartbeats 40000000 in
theorem walk (q : Option Addr) (L : List OpR) (n c : Nat) (w : World) (hL : L.length = n) (h : Rs opE w q L) (hok : ∀ r ∈ L, r.Ok w) (hcm : n ≤ 9223372036854775807) :
    Calls Try.prog 3 #[.slice q n c] w fun e w' => e = .returned (.bool true) ∧ Below w.heap.size w w' := by
  have C0 := Lib.hid (shown_any w)
  have HU := Lib.hid h
  have HN := Lib.hid hL
  have HOk := Lib.hid hok
  clear h hL hok
  go_enter Try.func3, Try.ntmps3
  go_wp2_with fail
  refine C0.out.mono ?_
  rintro e w1 ⟨rfl, hb1⟩
  have CN := Lib.hid (tnew w w1 hb1)
  clear hb1 C0
  go_wp2_with fail
  refine CN.out.mono ?_
  rintro e w2 ⟨s, rfl, h2, -⟩
  have H2 := Lib.hid ((usecond (sstb s) h2).less (Y := fun _ => False) (fun k hk => hk.elim))
  obtain ⟨y, hy⟩ : ∃ y, y = w2.heap.size := ⟨_, rfl⟩
  rw [← hy] at H2
  clear h2 CN
  go_wp2_with fail
  rw [← hy]
  generalize w2.alloc (.cells #[.slice none 0 0, .slice none 0 0, .int .i64 0] 30) = w3 at H2 ⊢
  clear hy
  go_loopw [6] (fun i wr => ∃ (j : Nat) (D : Sd V), j ≤ n ∧ j ≤ 60 ∧ i = .int .i64 (j : Int) ∧ Hid (D.n ≤ 10 * j) ∧ Hid (Tw (SSt s) (YK y) w (fun _ => False) wr D D)) (fun i _ => 61 - (intOf i).toNat)
  case atStart => exact ⟨0, s0, Nat.zero_le _, Nat.zero_le _, rfl, Lib.hid (Nat.le_refl _), H2⟩
  case round =>
    clear H2
    obtain ⟨j, D, hj, hj2, rfl, HDn, HT⟩ := hrel
    by_cases hlt : j < n
    · by_cases hlt2 : j < 60
      · have d1 : decide ((j : Int) < (n : Int)) = true := decide_eq_true (by omega)
        have d2 : decide ((j : Int) < 60) = true := decide_eq_true (by omega)
        have hj0 : (0 : Int) ≤ (j : Int) := by omega
        have hjn : (j : Int) < (n : Int) := by omega
        have hjl : j < L.length := by rw [HN.out]; exact hlt
        obtain ⟨b, off, rfl, hbl, u0, u1, u2, u3, u4, u5', u6, u7, u8⟩ := op_cells (HU.out.keep HT.out.below) j hjl
        have hokr := HOk.out _ (List.getElem_mem hjl)
        generalize L[j] = r at u0 u1 u2 u3 u4 u5' u6 u7 u8 hokr
        have HR := Lib.hid hokr
        have HCa := Lib.hid (OC.new wr r)
        have HTa := Lib.hid ((HT.out.on (sstb s) (yk_stb y) (show Below wr.heap.size wr (wr.alloc (.cells #[.int .u8 r.kd, .string ⟨r.key.toArray⟩, .int .u8 r.v.k, .string r.v.S, .slice r.v.ql r.v.nl r.v.cl, .slice r.v.qh r.v.nh r.v.ch, .slice r.v.qz r.v.nz r.v.cz, .int .i64 r.n, .bool r.on] 37)) from (Below.refl _ _).alloc (Nat.le_refl _) _)).1.less (Y := fun k => k = wr.heap.size) (fun k hk => by
          subst hk
          exact Or.inr ⟨Nat.le_refl _, HCa.out.lt⟩))
        have HDb := Lib.hid (show D.n + 10 ≤ 100000 by have := HDn.out; omega)
        have CK := Lib.hid (fun W => key_any ⟨r.key.toArray⟩ W (by show r.key.toArray.size ≤ _; rw [List.size_toArray]; exact hokr.ks))
        obtain ⟨rn0, rn1⟩ := hokr.n
        obtain ⟨kd0, kd1⟩ := hokr.kd
        obtain ⟨g, hg⟩ : ∃ g, g = wr.heap.size := ⟨_, rfl⟩
        rw [← hg] at HTa HCa
        clear hokr hbl
        go_wp2_with fail
        rw [← hg]
        generalize wr.alloc (.cells #[.int .u8 r.kd, .string ⟨r.key.toArray⟩, .int .u8 r.v.k, .string r.v.S, .slice r.v.ql r.v.nl r.v.cl, .slice r.v.qh r.v.nh r.v.ch, .slice r.v.qz r.v.nz r.v.cz, .int .i64 r.n, .bool r.on] 37) = w3 at HTa HCa ⊢
        obtain ⟨o0, o1, o2, o3, o4, o5, o6, o7, o8⟩ := HCa.out.at_
        clear hg u0 u1 u2 u3 u4 u5' u6 u7 u8 HT
        refine (CK.out _).mono ?_
        rintro e w4 ⟨⟨K, rfl, hK⟩, rfl⟩
        have hK2 := key_small hK
        clear hK CK o1
        obtain ⟨k, hK⟩ : ∃ k, MapF.KeyIs K k := ⟨_, hK2⟩
        have HK := Lib.hid hK
        clear hK hK2
        have HDr := Lib.hid (show D.n + 8 ≤ 10 * (j + 1) by have := HDn.out; omega)
        obtain ⟨rr, hrr⟩ : ∃ rr, r.kd % 8 = rr := ⟨_, rfl⟩
        have hrt : r.kd.tmod 8 = rr := by rw [Int.tmod_eq_emod_of_nonneg kd0]; exact hrr
        have hways : (rr = 2) ∨ (rr = 3) ∨ (rr = 4) ∨ (rr = 5) ∨ (rr = 6) ∨ (rr = 7) ∨ ((rr == 2) = false ∧ (rr == 3) = false ∧ (rr == 4) = false ∧ (rr == 5) = false ∧ (rr == 6) = false ∧ (rr == 7) = false) := by
          simp only [beq_eq_false_iff_ne]
          omega
        clear HDn
        go_upto_block 2 with fail
        go_cut [] (fun wx => ∃ E : Sd V, Hid (E.n ≤ 10 * (j + 1)) ∧ Hid (Tw (SSt s) (YK y) w (fun k => k = g) wx E E))
        case first =>
          rcases hways with rfl | rfl | rfl | rfl | rfl | rfl | ⟨s2, s3, s4, s5, s6, s7⟩
          · have CC := Lib.hid (tget (yk_stb y) HTa.out (by show D.n + 0 ≤ 100000; have := HDb.out; omega) K k HK.out)
            go_wp2_with fail
            with_reducible refine CC.out.mono ?_
            rintro e w5 ⟨p1, rfl, hp1, hd1, h5, -⟩
            have H5 := Lib.hid h5
            have CD := Lib.hid (uget (sstb s) H5.out (by show D.n + 0 ≤ 100000; have := HDb.out; omega) K k HK.out)
            unfold PV.agg
            clear CC h5
            go_wp2_with fail
            with_reducible refine CD.out.mono ?_
            rintro e w6 ⟨p2, rfl, hp2, hd2, h6, hk6⟩
            have CS := Lib.hid (rsame p1.k p1.S p1.ql p1.nl p1.cl p1.qh p1.nh p1.ch p1.qz p1.nz p1.cz p1.d p2.k p2.S p2.ql p2.nl p2.cl p2.qh p2.nh p2.ch p2.qz p2.nz p2.cz p2.d w6 (hp1.same hk6.1 (fun k hk => hk6.2 k (Or.inr hk))) hp2)
            rw [show sameB p1.d p2.d = true from decide_eq_true (hd1.trans hd2.symm)] at CS
            have H6 := Lib.hid (show Tw (SSt s) (YK y) w _ w6 (getS k D) (getS k D) from h6)
            unfold PV.agg
            clear CD h6 hk6 hp1 hp2 hd1 hd2
            go_wp2_with fail
            refine CS.out.mono ?_
            rintro e w7 ⟨rfl, hb7⟩
            have HTe := Lib.hid ((H6.out.on (sstb s) (yk_stb y) hb7).1.less (Y := fun k => k = g) (fun k hk => Or.inl (Or.inl (Or.inl hk))))
            clear CS hb7 H6 H5
            have HEn := Lib.hid (show ((getS k D)).n ≤ 10 * (j + 1) by show D.n + 1 ≤ _; have := HDr.out; omega)
            go_wp2_with fail
            go_meet
            exact ⟨_, HEn, HTe⟩
          · have hnn : (setDueS k r.n r.on D).n = D.n + 1 := by
              unfold setDueS
              split
              · split <;> rfl
              · rfl
            have HNs := Lib.hid hnn
            clear hnn
            have CC := Lib.hid (fun W (hW : Tw (SSt s) (YK y) w (fun k => k = g) W D D) => tsetdue (yk_stb y) hW (by show D.n + 0 ≤ 100000; have := HDb.out; omega) K k r.n r.on HK.out)
            have CD := Lib.hid (fun W (hW : Tw (SSt s) (YK y) w (fun k => k = g) W (setDueS k r.n r.on D) D) => usetdue (sstb s) hW (by show D.n + 0 ≤ 100000; have := HDb.out; omega) K k r.n r.on HK.out)
            have xb : (setDueB k D != setDueB k D) = false := bne_self_eq_false _
            have HGd := Lib.hid ((HTa.out.on (sstb s) (yk_stb y) (Below.refl w4.heap.size w4).drew).1.less (Y := fun k => k = g) (fun k hk => Or.inl hk))
            have HGc := Lib.hid (HCa.out.below (Below.refl w4.heap.size w4).drew)
            go_wp2_with fail
            go_region_held (fun W => Hid (OC W g r) ∧ W.cell? ⟨g, 7, none⟩ = some (.int .i64 r.n) ∧ W.cell? ⟨g, 8, none⟩ = some (.bool r.on)) (first | exact ⟨by assumption, (Hid.out (by assumption : Hid (OC _ g r))).last⟩)
              (first
              | (go_at_call 15; (with_reducible refine (CC.out _ (Hid.out (by assumption))).mono ?_); rintro e w5 ⟨rfl, h5, hk5⟩; have H5 := Lib.hid h5; have HC5 := Lib.hid (OC.keep (Hid.out (by assumption)) hk5 rfl); clear h5 hk5)
              | (go_at_call 16; (with_reducible refine (CD.out _ H5.out).mono ?_); rintro e w6 ⟨rfl, h6, hk6⟩; have HTe := Lib.hid (show Tw (SSt s) (YK y) w _ w6 (setDueS k r.n r.on D) (setDueS k r.n r.on D) from h6); have HC6 := Lib.hid (OC.keep (Hid.out (by assumption)) hk6 rfl); clear h6 hk6))
            go_wp2_with fail
            have HEn := Lib.hid (show ((setDueS k r.n r.on D)).n ≤ 10 * (j + 1) by rw [HNs.out]; have := HDr.out; omega)
            go_wp2_with fail
            go_meet
            exact ⟨_, HEn, HTe⟩
          · have CC := Lib.hid (ttick (yk_stb y) HTa.out (by show D.n + 0 ≤ 100000; have := HDb.out; omega) r.n rn0 rn1)
            go_wp2_with fail
            refine CC.out.mono ?_
            rintro e w5 ⟨rfl, h5, hk5⟩
            have H5 := Lib.hid (show Tw (SSt s) (YK y) w _ w5 (tickS r.n D) D from h5)
            have HC5 := Lib.hid (HCa.out.keep hk5 rfl)
            have CD := Lib.hid (utick (sstb s) H5.out (by show D.n + 0 ≤ 100000; have := HDb.out; omega) r.n rn0 rn1)
            clear CC h5 hk5 o0 o2 o3 o4 o5 o6 o7 o8
            obtain ⟨o0, -, o2, o3, o4, o5, o6, o7, o8⟩ := HC5.out.at_
            go_wp2_with fail
            refine CD.out.mono ?_
            rintro e w6 ⟨rfl, h6, -⟩
            have HTe := Lib.hid (show Tw (SSt s) (YK y) w _ w6 (tickS r.n D) (tickS r.n D) from h6)
            clear CD h6 H5 HC5
            have HEn := Lib.hid (show ((tickS r.n D)).n ≤ 10 * (j + 1) by show D.n + 1 ≤ _; have := HDr.out; omega)
            go_wp2_with fail
            go_meet
            exact ⟨_, HEn, HTe⟩
          · have hnn : (putAny k v0 D).n = D.n + 1 := by
              unfold putAny goneS
              rw [if_pos (show v0.kind = 0 from rfl)]
              split <;> rfl
            have HNs := Lib.hid hnn
            clear hnn
            have CC := Lib.hid (tput (yk_stb y) HTa.out (by show D.n + 0 ≤ 100000; have := HDb.out; omega) K k HK.out pv0 (pv0_in _) (fun k hk => absurd hk (pv0_at k)) (Or.inl ⟨rfl, rfl, rfl, rfl, rfl⟩))
            go_wp2_with fail
            refine CC.out.mono ?_
            rintro e w5 ⟨rfl, h5, hk5⟩
            have H5 := Lib.hid (show Tw (SSt s) (YK y) w _ w5 (putAny k v0 D) D from h5)
            have HC5 := Lib.hid (HCa.out.keep hk5 rfl)
            have CD := Lib.hid (uput (sstb s) H5.out (by show D.n + 0 ≤ 100000; have := HDb.out; omega) K k HK.out pv0 (pv0_in _) (fun k hk => absurd hk (pv0_at k)))
            clear CC h5 hk5 o0 o2 o3 o4 o5 o6 o7 o8
            obtain ⟨o0, -, o2, o3, o4, o5, o6, o7, o8⟩ := HC5.out.at_
            go_wp2_with fail
            refine CD.out.mono ?_
            rintro e w6 ⟨rfl, h6, -⟩
            have HTe := Lib.hid (show Tw (SSt s) (YK y) w _ w6 (putAny k v0 D) (putAny k v0 D) from h6)
            clear CD h6 H5 HC5
            have HEn := Lib.hid (show ((putAny k v0 D)).n ≤ 10 * (j + 1) by rw [HNs.out]; have := HDr.out; omega)
            go_wp2_with fail
            go_meet
            exact ⟨_, HEn, HTe⟩
          · have xb : ((purgeN D : Int) != (purgeN D : Int)) = false := bne_self_eq_false _
            have CC := Lib.hid (tpurge (yk_stb y) HTa.out (by show D.n + 0 ≤ 100000; have := HDb.out; omega))
            go_wp2_with fail
            refine CC.out.mono ?_
            rintro e w5 ⟨rfl, h5, hk5⟩
            have H5 := Lib.hid (show Tw (SSt s) (YK y) w _ w5 (purgeS D) D from h5)
            have HC5 := Lib.hid (HCa.out.keep hk5 rfl)
            have CD := Lib.hid (upurge (sstb s) H5.out (by show D.n + 0 ≤ 100000; have := HDb.out; omega))
            clear CC h5 hk5 o0 o2 o3 o4 o5 o6 o7 o8
            obtain ⟨o0, -, o2, o3, o4, o5, o6, o7, o8⟩ := HC5.out.at_
            go_wp2_with fail
            refine CD.out.mono ?_
            rintro e w6 ⟨rfl, h6, -⟩
            have HTe := Lib.hid (show Tw (SSt s) (YK y) w _ w6 (purgeS D) (purgeS D) from h6)
            clear CD h6 H5 HC5
            have HEn := Lib.hid (show ((purgeS D)).n ≤ 10 * (j + 1) by show D.n + 1 ≤ _; have := HDr.out; omega)
            go_wp2_with fail
            go_meet
            exact ⟨_, HEn, HTe⟩
          · obtain ⟨da, hda⟩ : ∃ da, da = (dueV k D.L).1 := ⟨_, rfl⟩
            obtain ⟨db, hdb⟩ : ∃ db, db = (dueV k D.L).2 := ⟨_, rfl⟩
            have HDa := Lib.hid hda
            have HDB := Lib.hid hdb
            have xa : (da != da) = false := bne_self_eq_false _
            have xb : (db != db) = false := bne_self_eq_false _
            clear hda hdb
            have CC := Lib.hid (show Calls Try.prog 23 #[.pointer (some ⟨s, 0, none⟩), .string K] w4 fun e w' => e = .returned (.tuple #[.int .i64 da, .bool db]) ∧ Tw (SSt s) (YK y) w (fun k => k = g) w' (getS k D) D ∧ Keep (fun k => k = g) w4 w' from by
              rw [HDa.out, HDB.out]
              exact tdue (yk_stb y) HTa.out (by show D.n + 0 ≤ 100000; have := HDb.out; omega) K k HK.out)
            go_wp2_with fail
            refine CC.out.mono ?_
            rintro e w5 ⟨rfl, h5, hk5⟩
            have H5 := Lib.hid (show Tw (SSt s) (YK y) w _ w5 (getS k D) D from h5)
            have HC5 := Lib.hid (HCa.out.keep hk5 rfl)
            have CD := Lib.hid (show Calls Try.prog 24 #[.pointer (some ⟨y, 0, none⟩), .string K] w5 fun e w' => e = .returned (.tuple #[.int .i64 da, .bool db]) ∧ Tw (SSt s) (YK y) w (fun k => k = g) w' (getS k D) (getS k D) ∧ Keep (fun k => k = g) w5 w' from by
              rw [HDa.out, HDB.out]
              exact udue (sstb s) H5.out (by show D.n + 0 ≤ 100000; have := HDb.out; omega) K k HK.out)
            clear CC h5 hk5 o0 o2 o3 o4 o5 o6 o7 o8
            obtain ⟨o0, -, o2, o3, o4, o5, o6, o7, o8⟩ := HC5.out.at_
            go_wp2_with fail
            refine CD.out.mono ?_
            rintro e w6 ⟨rfl, h6, -⟩
            have HTe := Lib.hid (show Tw (SSt s) (YK y) w _ w6 (getS k D) (getS k D) from h6)
            clear CD h6 H5 HC5
            have HEn := Lib.hid (show ((getS k D)).n ≤ 10 * (j + 1) by show D.n + 1 ≤ _; have := HDr.out; omega)
            go_wp2_with fail
            go_meet
            exact ⟨_, HEn, HTe⟩
          · have hnn : (putAny k (fitV r.v.d) D).n = D.n + 1 := by
              unfold putAny goneS
              split
              · split <;> rfl
              · rfl
            have HNs := Lib.hid hnn
            clear hnn
            have CC := Lib.hid (rfit r.v.k r.v.S r.v.ql r.v.nl r.v.cl r.v.qh r.v.nh r.v.ch r.v.qz r.v.nz r.v.cz r.v.d _ (HR.out.v.keep HTa.out.below) HR.out.s)
            have hr := fit_right r.v.d
            obtain ⟨l1, l2, l3⟩ := fit_len r.v.d
            have hrk := right_kind hr
            have HF := Lib.hid (⟨hr, l1, l2, l3, hrk⟩ : right (fitV r.v.d) ∧ (fitV r.v.d).l.length ≤ 1048576 ∧ (fitV r.v.d).h.length ≤ 1048576 ∧ (fitV r.v.d).z.length ≤ 1048576 ∧ (fitV r.v.d).kind ≤ 5)
            clear hr l1 l2 l3 hrk
            go_wp2_with fail
            with_reducible refine CC.out.mono ?_
            rintro e w5 ⟨v, rfl, hv, hb5⟩
            obtain ⟨p1, rfl, hp1, hpd1, -, hpb1⟩ := pv_of hv (by have := HF.out.2.2.2.2; omega) HF.out.2.1 HF.out.2.2.1 HF.out.2.2.2.1
            have H5 := Lib.hid (HTa.out.on (sstb s) (yk_stb y) hb5).1
            have HC5 := Lib.hid (HCa.out.below hb5)
            have CP := Lib.hid (tput (yk_stb y) H5.out (by show D.n + 0 ≤ 100000; have := HDb.out; omega) K k HK.out p1 hp1 (fun k hk => Or.inr (hpb1 k hk)) (by rw [hpd1]; exact HF.out.1))
            rw [hpd1] at CP
            clear CC hv hb5 hp1 hpd1 hpb1
            unfold PV.agg
            unfold PV.agg at CP
            go_wp2_with fail
            refine CP.out.mono ?_
            rintro e w6 ⟨rfl, h6, hk6⟩
            have H6 := Lib.hid (h6.less (Y := fun k => k = g) (fun k hk => Or.inl hk))
            have HC6 := Lib.hid (HC5.out.keep hk6 (Or.inl rfl))
            have CC := Lib.hid (rfit r.v.k r.v.S r.v.ql r.v.nl r.v.cl r.v.qh r.v.nh r.v.ch r.v.qz r.v.nz r.v.cz r.v.d _ (HR.out.v.keep H6.out.below) HR.out.s)
            clear CP h6 hk6 H5 HC5 o0 o2 o3 o4 o5 o6 o7 o8
            obtain ⟨o0, -, o2, o3, o4, o5, o6, o7, o8⟩ := HC6.out.at_
            go_wp2_with fail
            with_reducible refine CC.out.mono ?_
            rintro e w7 ⟨v, rfl, hv, hb7⟩
            obtain ⟨p2, rfl, hp2, hpd2, -, hpb2⟩ := pv_of hv (by have := HF.out.2.2.2.2; omega) HF.out.2.1 HF.out.2.2.1 HF.out.2.2.2.1
            have H7 := Lib.hid (H6.out.on (sstb s) (yk_stb y) hb7).1
            have CP := Lib.hid (uput (sstb s) H7.out (by show D.n + 0 ≤ 100000; have := HDb.out; omega) K k HK.out p2 hp2 (fun k hk => Or.inr (hpb2 k hk)))
            rw [hpd2] at CP
            clear CC hv hb7 hp2 hpd2 hpb2
            unfold PV.agg
            unfold PV.agg at CP
            go_wp2_with fail
            refine CP.out.mono ?_
            rintro e w8 ⟨rfl, h8, -⟩
            have HTe := Lib.hid (h8.less (Y := fun k => k = g) (fun k hk => Or.inl hk))
            clear CP h8 H7 H6 HC6 HF
            have HEn := Lib.hid (show ((putAny k (fitV r.v.d) D)).n ≤ 10 * (j + 1) by rw [HNs.out]; have := HDr.out; omega)
            go_wp2_with fail
            go_meet
            exact ⟨_, HEn, HTe⟩
        case rest =>
          obtain ⟨E, HEn, HTe⟩ := hcut
          clear hways HDb HDr HR HCa HTa hrt hrr
          have HEb := Lib.hid (show E.n ≤ 100000 by have := HEn.out; omega)
          have HW := Lib.hid (uwf HTe.out)
          have CA := Lib.hid (tkeys (yk_stb y) HTe.out HEb.out)
          clear o0 o2 o3 o4 o5 o6 o7 o8
          go_wp2_with fail
          with_reducible refine CA.out.mono ?_
          rintro e wa ⟨q1, c1, rfl, hR1, -, -, -, hT1, -⟩
          have HT1 := Lib.hid hT1
          have HR1 := Lib.hid hR1
          have CB := Lib.hid (ukeys (sstb s) HT1.out HEb.out)
          clear hT1 hR1 CA HTe
          go_wp2_with fail
          with_reducible refine CB.out.mono ?_
          rintro e wb ⟨q2, c2, rfl, hR2, -, -, -, hT2, hK2⟩
          have HT2 := Lib.hid hT2
          have CT := Lib.hid (StrS.same_texts q1 q2 (keysS E.L) (keysS E.L) _ _ c1 c2 wb rfl rfl (rs_ss.1 (Rs.same HR1.out hK2.1 (fun h0 a ha => hK2.2 _ (Or.inr ⟨h0, a, ha, rfl⟩)))) (rs_ss.1 hR2) (by
            have h1 := keys_len E.L
            have h2 := HW.out.len
            have h3 := HEb.out
            omega))
          rw [decide_eq_true (rfl : keysS E.L = keysS E.L)] at CT
          clear hT2 hR2 hK2 CB HT1 HR1
          go_wp2_with fail
          refine CT.out.mono ?_
          rintro e wc ⟨rfl, hbc⟩
          have HTc := Lib.hid ((HT2.out.on (sstb s) (yk_stb y) hbc).1.less (Y := fun _ => False) (fun k hk => hk.elim))
          clear hbc CT HT2
          obtain ⟨yq, yc, hyq⟩ := uqc HTc.out
          have HGd := Lib.hid ((hyq.on (sstb s) (yq_stb y yq yc) (Below.refl wc.heap.size wc).drew).1.less (Y := fun _ => False) (fun k hk => hk.elim))
          clear hyq HTc
          have CH := Lib.hid (fun W (hW : Tw (SSt s) (YQ y yq yc) w (fun _ => False) W E E) => theld (yq_stb y yq yc) hW HEb.out)
          have CO := Lib.hid (fun W (hW : Tw (SSt s) (YQ y yq yc) w (fun _ => False) W E E) => tnow (yq_stb y yq yc) hW)
          have CV := Lib.hid (fun W (hW : Tw (SSt s) (YQ y yq yc) w (fun _ => False) W E E) => tversion (yq_stb y yq yc) hW HEb.out K k HK.out)
          have CU := Lib.hid (fun W (hW : Tw (SSt s) (YQ y yq yc) w (fun _ => False) W E E) => uversionQ (sstb s) hW HEb.out K k HK.out)
          have x1 : ((E.L.length : Int) != (E.L.length : Int)) = false := bne_self_eq_false _
          have x2 : ((E.time : Int) != (E.time : Int)) = false := bne_self_eq_false _
          have x3 : ((E.C k : Int) != (E.C k : Int)) = false := bne_self_eq_false _
          go_wp2_with fail
          first
            | (go_region_held (fun W => Hid (Tw (SSt s) (YQ y yq yc) w (fun _ => False) W E E) ∧ W.cell? ⟨y, 0, none⟩ = some (.slice yq E.L.length yc) ∧ W.cell? ⟨y, 2, none⟩ = some (.int .i64 E.time)) (first | exact ⟨by assumption, utell (Hid.out (by assumption))⟩)
                (first
                | (go_at_call 29; (with_reducible refine (CH.out _ (Hid.out (by assumption))).mono ?_); rintro e w10 ⟨rfl, h10, -⟩; have HT10 := Lib.hid h10; clear h10)
                | (go_at_call 30; (with_reducible refine (CO.out _ (Hid.out (by assumption))).mono ?_); rintro e w11 ⟨rfl, h11, -⟩; have HT11 := Lib.hid h11; clear h11)
                | (go_at_call 31; (with_reducible refine (CV.out _ (Hid.out (by assumption))).mono ?_); rintro e w12 ⟨rfl, h12, -⟩; have HT12 := Lib.hid h12; clear h12)
                | (go_at_call 32; (with_reducible refine (CU.out _ (Hid.out (by assumption))).mono ?_); rintro e w13 ⟨rfl, h13, -⟩; have HT13 := Lib.hid h13; clear h13)))
            | fail
          all_goals
            go_wp2_with fail
            go_roundw
            case rel => exact ⟨j + 1, E, by omega, by omega, by go_num, HEn, Lib.hid (uback HT13.out)⟩
            case measure => simp [intOf]; omega
      · obtain rfl : j = 60 := by omega
        have d1 : decide (((60 : Nat) : Int) < (n : Int)) = true := decide_eq_true (by omega)
        have d1' : (60 : Int) < (n : Int) := by omega
        have HB := Lib.hid HT.out.below
        go_wp2_with fail
        go_ret
        exact ⟨rfl, HB.out⟩
    · have d1 : decide ((j : Int) < (n : Int)) = false := decide_eq_false (by omega)
      have HB := Lib.hid HT.out.below
      go_wp2_with fail
      go_ret
      exact ⟨rfl, HB.out⟩

end Go.Proofs.Ytbcjgkedlapmhaa.storePlays
