/-
  StoreApart: what becomes of one key changes no other one.
-/
import Derived.Test.YtbcjgkedlapmhaaStoSame
import Derived.Deep.RegionHeld
import Derived.Deep.CutBlock
import Derived.Deep.DeepCutAuto
namespace Go.Proofs.Ytbcjgkedlapmhaa.storeApart
open Go.RowKit Kit StrT RowG BOrd ValT StoT StoM StoL RefV ValM
set_option linter.unusedVariables false
set_option maxRecDepth 100000
-- ASKS: 
-- VSZ: s

/-- A value in a variable of its own, and its rows. -/
structure VS (W : World) (g : Nat) (p : PV) : Prop where
  c : VCells W g (.int .u8 p.k) (.string p.S) (.slice p.ql p.nl p.cl) (.slice p.qh p.nh p.ch) (.slice p.qz p.nz p.cz)
  i : p.In W
def XV (g : Nat) (p : PV) (k : Nat) : Prop := k = g ∨ p.at_ k
theorem VS.keep {w w' : World} {X : Nat → Prop} {g : Nat} {p : PV} (h : VS w g p) (hk : Keep X w w') (hx : ∀ k, XV g p k → X k) : VS w' g p :=
  ⟨keep_cells h.c hk (hx _ (Or.inl rfl)), h.i.same hk.1 (fun k h1 => hk.2 k (hx k (Or.inr h1)))⟩
theorem VS.on {w w' : World} {A B : StK} {w0 : World} {D E : Sd V} {X : Nat → Prop} {g : Nat} {p : PV} (SA : Stb A) (SB : Stb B) (h : VS w g p) (H : Tw A B w0 X w D E) (hx : ∀ k, XV g p k → X k) (hb : Below w.heap.size w w') : VS w' g p := h.keep (H.on SA SB hb).2 hx
theorem VS.cells {w : World} {g : Nat} {p : PV} (h : VS w g p) : w.cell? ⟨g, 0, none⟩ = some (.int .u8 p.k) ∧ w.cell? ⟨g, 1, none⟩ = some (.string p.S) ∧ w.cell? ⟨g, 2, none⟩ = some (.slice p.ql p.nl p.cl) ∧ w.cell? ⟨g, 3, none⟩ = some (.slice p.qh p.nh p.ch) ∧ w.cell? ⟨g, 4, none⟩ = some (.slice p.qz p.nz p.cz) := ⟨h.c.c0, h.c.c1, h.c.c2, h.c.c3, h.c.c4⟩
set_option maxHeartbeats 40000000 in
theorem walk (ka : Int) (Sa : ByteArray) (ql : Option Addr) (nl cl : Nat) (qh : Option Addr) (nh ch : Nat) (qz : Option Addr) (nz cz : Nat) (dv : V) (x : Int) (q : Option Addr) (L : List OpR) (n c : Nat) (w : World) (HA : VArg w ka Sa ql nl cl qh nh ch qz nz cz dv) (hS : Sa.size ≤ 140737488351232) (hx0 : 0 ≤ x) (hx1 : x ≤ 65535) (hL : L.length = n) (h : Rs opE w q L) (hok : ∀ r ∈ L, r.Ok w) (hcm : n ≤ 9223372036854775807) :
    Calls Try.prog 4 #[.agg #[.int .u8 ka, .string Sa, .slice ql nl cl, .slice qh nh ch, .slice qz nz cz], .int .u16 x, .slice q n c] w fun e w' => e = .returned (.bool true) ∧ Below w.heap.size w w' := by
  have HV0 := Lib.hid (VCells.new w (.int .u8 ka) (.string Sa) (.slice ql nl cl) (.slice qh nh ch) (.slice qz nz cz) w.heap.size rfl)
  have HB0 := Lib.hid (show Below w.heap.size w (w.alloc (.cells #[.int .u8 ka, .string Sa, .slice ql nl cl, .slice qh nh ch, .slice qz nz cz] 35)) from (Below.refl _ _).alloc (Nat.le_refl _) _)
  have C0 := Lib.hid (fun W => shown_any W)
  have HAr := Lib.hid HA
  have HSs := Lib.hid hS
  have HU := Lib.hid h
  have HN := Lib.hid hL
  have HOk := Lib.hid hok
  clear h hL hok HA hS
  go_enter Try.func4, Try.ntmps4
  go_wp2_with fail
  generalize w.alloc (.cells #[.int .u8 ka, .string Sa, .slice ql nl cl, .slice qh nh ch, .slice qz nz cz] 35) = w1 at HV0 HB0 ⊢
  refine (C0.out _).mono ?_
  rintro e w2 ⟨rfl, hb2⟩
  have HB2 := Lib.hid (HB0.out.trans (hb2.mono HB0.out.size))
  have HV2 := Lib.hid (HV0.out.keep hb2)
  have CN := Lib.hid (tnew w w2 HB2.out)
  clear hb2 C0 HB0 HV0
  go_wp2_with fail
  refine CN.out.mono ?_
  rintro e w3 ⟨s, rfl, h3, hb3⟩
  have HV3 := Lib.hid (HV2.out.keep hb3)
  have H3 := Lib.hid (h3.less (Y := fun _ => False) (fun k hk => hk.elim))
  have CFt := Lib.hid (rfit ka Sa ql nl cl qh nh ch qz nz cz dv w3 (HAr.out.keep (HB2.out.trans (hb3.mono HB2.out.size))) HSs.out)
  obtain ⟨-, -, a0, a1, a2, a3, a4⟩ := HV3.out
  clear h3 hb3 CN HV2 HAr HSs HB2
  go_wp2_with fail
  with_reducible refine CFt.out.mono ?_
  rintro e w4 ⟨v, rfl, hv, hb4⟩
  have hr := fit_right dv
  obtain ⟨l1, l2, l3⟩ := fit_len dv
  obtain ⟨p, rfl, hp, hpd, hpk, hpb⟩ := pv_of hv (by have := right_kind hr; omega) l1 l2 l3
  rw [← hpd] at hr hpk
  have HR := Lib.hid hr
  have HPk := Lib.hid hpk
  obtain ⟨g, hg⟩ : ∃ g, g = w4.heap.size := ⟨_, rfl⟩
  have HS5 := Lib.hid (show VS (w4.alloc (.cells #[.int .u8 p.k, .string p.S, .slice p.ql p.nl p.cl, .slice p.qh p.nh p.ch, .slice p.qz p.nz p.cz] 35)) g p from ⟨VCells.new w4 _ _ _ _ _ g hg, hp.same (show w4.heap.size ≤ (w4.alloc (.cells #[.int .u8 p.k, .string p.S, .slice p.ql p.nl p.cl, .slice p.qh p.nh p.ch, .slice p.qz p.nz p.cz] 35)).heap.size by simp) (fun k h1 => ((Below.refl w4.heap.size w4).alloc (Nat.le_refl _) _).block k (hpb k h1).2)⟩)
  have H5 := Lib.hid ((((H3.out.on (sstb s) noSt_stb hb4).1).on (sstb s) noSt_stb (show Below w4.heap.size w4 (w4.alloc (.cells #[.int .u8 p.k, .string p.S, .slice p.ql p.nl p.cl, .slice p.qh p.nh p.ch, .slice p.qz p.nz p.cz] 35)) from (Below.refl _ _).alloc (Nat.le_refl _) _)).1.less (Y := XV g p) (fun k hk => by
    rcases hk with rfl | hk
    · exact Or.inr ⟨Nat.le_of_eq hg.symm, HS5.out.c.lt⟩
    · exact Or.inl (Or.inr (hpb k hk))))
  clear hv hr l1 l2 l3 hpd hpk CFt hp a0 a1 a2 a3 a4 hpb H3 HV3 hb4
  obtain ⟨c0, c1, c2, c3, c4⟩ := HS5.out.cells
  have CP := Lib.hid (tput noSt_stb H5.out (by decide) ⟨#[97]⟩ [97] key_a p HS5.out.i (fun k hk => Or.inr hk) HR.out)
  unfold PV.agg
  unfold PV.agg at CP
  go_wp2_with fail
  rw [← hg]
  generalize w4.alloc (.cells #[.int .u8 p.k, .string p.S, .slice p.ql p.nl p.cl, .slice p.qh p.nh p.ch, .slice p.qz p.nz p.cz] 35) = w5 at HS5 H5 CP c0 c1 c2 c3 c4 ⊢
  clear hg
  refine CP.out.mono ?_
  rintro e w6 ⟨rfl, h6, hk6⟩
  have H6 := Lib.hid h6
  have HS6 := Lib.hid (HS5.out.keep hk6 (fun k hk => hk))
  have CC := Lib.hid (tsetdue noSt_stb H6.out (by rw [(a2_n p.d (1 + x)).1]; decide) ⟨#[97]⟩ [97] (1 + x) true key_a)
  generalize setDueB [97] (putAny [97] p.d (s0 : Sd V)) = sb at CC
  clear h6 hk6 CP H5 HS5 c0 c1 c2 c3 c4
  go_wp2_with fail
  refine CC.out.mono ?_
  rintro e w7 ⟨rfl, h7, hk7⟩
  obtain ⟨D0, hD0⟩ : ∃ D0, D0 = A2 p.d (1 + x) := ⟨_, rfl⟩
  obtain ⟨N, hN⟩ : ∃ N, N = D0.C [97] := ⟨_, rfl⟩
  have H7 := Lib.hid (show Tw (SSt s) NoSt w (XV g p) w7 D0 s0 by rw [hD0]; exact h7)
  have HS7 := Lib.hid (HS6.out.keep hk7 (fun k hk => hk))
  have HA7 := Lib.hid (show Ap p.d (1 + x) N D0 by rw [hN, hD0]; exact ap_0 p.d (by omega))
  have HD7 := Lib.hid (show D0.n = 2 by rw [hD0]; exact (a2_n p.d (1 + x)).2)
  have CC := Lib.hid (tversion noSt_stb H7.out (by rw [HD7.out]; decide) ⟨#[97]⟩ [97] key_a)
  rw [← hN] at CC
  clear h7 hk7 H6 HS6 hD0 hN
  go_wp2_with fail
  refine CC.out.mono ?_
  rintro e w8 ⟨rfl, h8, hk8⟩
  have H8 := Lib.hid h8
  have HS8 := Lib.hid (HS7.out.keep hk8 (fun k hk => hk))
  clear h8 hk8 H7 HS7 CC
  go_wp2_with fail
  go_loopw [11] (fun i wr => ∃ (j : Nat) (D : Sd V), j ≤ n ∧ j ≤ 40 ∧ i = .int .i64 (j : Int) ∧ Hid (D.n ≤ 2 + 5 * j) ∧ Hid (Ap p.d (1 + x) N D) ∧ Hid (VS wr g p) ∧ Hid (Tw (SSt s) NoSt w (XV g p) wr D s0)) (fun i _ => 41 - (intOf i).toNat)
  case atStart => exact ⟨0, D0, Nat.zero_le _, Nat.zero_le _, rfl, Lib.hid (Nat.le_of_eq HD7.out), HA7, HS8, H8⟩
  case round =>
    clear H8 HS8 HA7 HD7
    obtain ⟨j, D, hj, hj2, rfl, HDn, HA, HS, HT⟩ := hrel
    by_cases hlt : j < n
    · by_cases hlt2 : j < 40
      · have d1 : decide ((j : Int) < (n : Int)) = true := decide_eq_true (by omega)
        have d2 : decide ((j : Int) < 40) = true := decide_eq_true (by omega)
        have hj0 : (0 : Int) ≤ (j : Int) := by omega
        have hjn : (j : Int) < (n : Int) := by omega
        have hjl : j < L.length := by rw [HN.out]; exact hlt
        obtain ⟨b, off, rfl, hbl, u0, u1, u2, u3, u4, u5', u6, u7, u8⟩ := op_cells (HU.out.keep HT.out.below) j hjl
        have hokr := HOk.out _ (List.getElem_mem hjl)
        generalize L[j] = r at u0 u1 u2 u3 u4 u5' u6 u7 u8 hokr
        have HRo := Lib.hid hokr
        obtain ⟨og, hog⟩ : ∃ og, og = wr.heap.size := ⟨_, rfl⟩
        have HCa := Lib.hid (OC.new wr r)
        obtain ⟨X1, hX1⟩ : ∃ X1 : Nat → Prop, X1 = fun k => XV g p k ∨ k = og := ⟨_, rfl⟩
        have HX := Lib.hid (show (∀ k, XV g p k → X1 k) ∧ X1 og from ⟨fun k hk => by rw [hX1]; exact Or.inl hk, by rw [hX1]; exact Or.inr rfl⟩)
        have HTa := Lib.hid ((HT.out.on (sstb s) noSt_stb (show Below wr.heap.size wr (wr.alloc (.cells #[.int .u8 r.kd, .string ⟨r.key.toArray⟩, .int .u8 r.v.k, .string r.v.S, .slice r.v.ql r.v.nl r.v.cl, .slice r.v.qh r.v.nh r.v.ch, .slice r.v.qz r.v.nz r.v.cz, .int .i64 r.n, .bool r.on] 37)) from (Below.refl _ _).alloc (Nat.le_refl _) _)).1.less (Y := X1) (fun k hk => by
          rw [hX1] at hk
          rcases hk with hk | rfl
          · exact Or.inl hk
          · exact Or.inr ⟨Nat.le_of_eq hog.symm, by rw [hog]; exact HCa.out.lt⟩))
        have HSa := Lib.hid (HS.out.on (sstb s) noSt_stb HT.out (fun k hk => hk) (show Below wr.heap.size wr (wr.alloc (.cells #[.int .u8 r.kd, .string ⟨r.key.toArray⟩, .int .u8 r.v.k, .string r.v.S, .slice r.v.ql r.v.nl r.v.cl, .slice r.v.qh r.v.nh r.v.ch, .slice r.v.qz r.v.nz r.v.cz, .int .i64 r.n, .bool r.on] 37)) from (Below.refl _ _).alloc (Nat.le_refl _) _))
        have HDb := Lib.hid (show D.n + 10 ≤ 100000 by have := HDn.out; omega)
        obtain ⟨rn0, rn1⟩ := hokr.n
        obtain ⟨kd0, kd1⟩ := hokr.kd
        rw [← hog] at HCa
        clear hokr hbl hX1
        obtain ⟨rr, hrr⟩ : ∃ rr, r.kd % 8 = rr := ⟨_, rfl⟩
        have hrt : r.kd.tmod 8 = rr := by rw [Int.tmod_eq_emod_of_nonneg kd0]; exact hrr
        have hways : (rr = 2) ∨ (rr = 4) ∨ (rr = 3) ∨ (rr = 5) ∨ (rr = 6) ∨ (rr = 7) ∨ ((rr == 2) = false ∧ (rr == 3) = false ∧ (rr == 4) = false ∧ (rr == 5) = false ∧ (rr == 6) = false ∧ (rr == 7) = false) := by
          simp only [beq_eq_false_iff_ne]
          omega
        go_upto_region 13 with fail
        rw [← hog]
        generalize wr.alloc (.cells #[.int .u8 r.kd, .string ⟨r.key.toArray⟩, .int .u8 r.v.k, .string r.v.S, .slice r.v.ql r.v.nl r.v.cl, .slice r.v.qh r.v.nh r.v.ch, .slice r.v.qz r.v.nz r.v.cz, .int .i64 r.n, .bool r.on] 37) = w9 at HTa HCa HSa ⊢
        obtain ⟨o0, -, o2, o3, o4, o5, o6, o7, o8⟩ := HCa.out.at_
        clear hog u0 u1 u2 u3 u4 u5' u6 u7 u8 HT HS
        go_upto_block 2 with fail
        go_cut [] (fun wx => ∃ D' : Sd V, Hid (D'.n = D.n + 1) ∧ Hid (Ap p.d (1 + x) N D') ∧ Hid (VS wx g p) ∧ Hid (Tw (SSt s) NoSt w X1 wx D' s0))
        case first =>
          rcases hways with rfl | rfl | rfl | rfl | rfl | rfl | ⟨s2, s3, s4, s5, s6, s7⟩
          · have HDe := Lib.hid (show (getS [98] D).n = D.n + 1 from rfl)
            have HAe := Lib.hid (HA.out.get [98])
            have CC := Lib.hid (tget noSt_stb HTa.out (by show D.n + 0 ≤ 100000; have := HDb.out; omega) ⟨#[98]⟩ [98] key_b)
            go_wp2_with fail
            with_reducible refine CC.out.mono ?_
            rintro e wa ⟨p1, rfl, -, -, hx, hk⟩
            have HTe := Lib.hid (hx.less (Y := X1) (fun k hk => Or.inl hk))
            have HSe := Lib.hid (HSa.out.keep hk HX.out.1)
            clear CC hx hk
            go_wp2_with fail
            go_meet
            exact ⟨_, HDe, HAe, HSe, HTe⟩
          · have HDe := Lib.hid (show (getS [98] D).n = D.n + 1 from rfl)
            have HAe := Lib.hid (HA.out.get [98])
            have CC := Lib.hid (tget noSt_stb HTa.out (by show D.n + 0 ≤ 100000; have := HDb.out; omega) ⟨#[98]⟩ [98] key_b)
            go_wp2_with fail
            with_reducible refine CC.out.mono ?_
            rintro e wa ⟨p1, rfl, -, -, hx, hk⟩
            have HTe := Lib.hid (hx.less (Y := X1) (fun k hk => Or.inl hk))
            have HSe := Lib.hid (HSa.out.keep hk HX.out.1)
            clear CC hx hk
            go_wp2_with fail
            go_meet
            exact ⟨_, HDe, HAe, HSe, HTe⟩
          · have HDe := Lib.hid (due_n [98] r.n r.on D)
            have HAe := Lib.hid (HA.out.due r.n r.on)
            have CC := Lib.hid (tsetdue noSt_stb HTa.out (by show D.n + 0 ≤ 100000; have := HDb.out; omega) ⟨#[98]⟩ [98] r.n r.on key_b)
            generalize setDueB [98] D = sb2 at CC
            go_wp2_with fail
            refine CC.out.mono ?_
            rintro e wa ⟨rfl, hx, hk⟩
            have HTe := Lib.hid (show Tw (SSt s) NoSt w X1 wa (setDueS [98] r.n r.on D) s0 from hx)
            have HSe := Lib.hid (HSa.out.keep hk HX.out.1)
            clear CC hx hk
            go_wp2_with fail
            go_meet
            exact ⟨_, HDe, HAe, HSe, HTe⟩
          · have HDe := Lib.hid (put_n [98] v0 D)
            have HAe := Lib.hid (HA.out.put v0)
            have CC := Lib.hid (tput noSt_stb HTa.out (by show D.n + 0 ≤ 100000; have := HDb.out; omega) ⟨#[98]⟩ [98] key_b pv0 (pv0_in _) (fun k hk => absurd hk (pv0_at k)) (Or.inl ⟨rfl, rfl, rfl, rfl, rfl⟩))
            go_wp2_with fail
            refine CC.out.mono ?_
            rintro e wa ⟨rfl, hx, hk⟩
            have HTe := Lib.hid (show Tw (SSt s) NoSt w X1 wa (putAny [98] v0 D) s0 from hx)
            have HSe := Lib.hid (HSa.out.keep hk HX.out.1)
            clear CC hx hk
            go_wp2_with fail
            go_meet
            exact ⟨_, HDe, HAe, HSe, HTe⟩
          · have HDe := Lib.hid (show (purgeS D).n = D.n + 1 from rfl)
            have HAe := Lib.hid (HA.out.purge)
            have CC := Lib.hid (tpurge noSt_stb HTa.out (by show D.n + 0 ≤ 100000; have := HDb.out; omega))
            generalize purgeN D = pn at CC
            go_wp2_with fail
            refine CC.out.mono ?_
            rintro e wa ⟨rfl, hx, hk⟩
            have HTe := Lib.hid (show Tw (SSt s) NoSt w X1 wa (purgeS D) s0 from hx)
            have HSe := Lib.hid (HSa.out.keep hk HX.out.1)
            clear CC hx hk
            go_wp2_with fail
            go_meet
            exact ⟨_, HDe, HAe, HSe, HTe⟩
          · have HDe := Lib.hid (show (getS [98] D).n = D.n + 1 from rfl)
            have HAe := Lib.hid (HA.out.get [98])
            have CC := Lib.hid (tdue noSt_stb HTa.out (by show D.n + 0 ≤ 100000; have := HDb.out; omega) ⟨#[98]⟩ [98] key_b)
            generalize dueV [98] D.L = dv2 at CC
            go_wp2_with fail
            refine CC.out.mono ?_
            rintro e wa ⟨rfl, hx, hk⟩
            have HTe := Lib.hid (show Tw (SSt s) NoSt w X1 wa (getS [98] D) s0 from hx)
            have HSe := Lib.hid (HSa.out.keep hk HX.out.1)
            clear CC hx hk
            go_wp2_with fail
            go_meet
            exact ⟨_, HDe, HAe, HSe, HTe⟩
          · have HDe := Lib.hid (put_n [98] (fitV r.v.d) D)
            have HAe := Lib.hid (HA.out.put (fitV r.v.d))
            have CC := Lib.hid (rfit r.v.k r.v.S r.v.ql r.v.nl r.v.cl r.v.qh r.v.nh r.v.ch r.v.qz r.v.nz r.v.cz r.v.d _ (HRo.out.v.keep HTa.out.below) HRo.out.s)
            have hr := fit_right r.v.d
            obtain ⟨l1, l2, l3⟩ := fit_len r.v.d
            have hrk := right_kind hr
            have HF := Lib.hid (⟨hr, l1, l2, l3, hrk⟩ : right (fitV r.v.d) ∧ (fitV r.v.d).l.length ≤ 1048576 ∧ (fitV r.v.d).h.length ≤ 1048576 ∧ (fitV r.v.d).z.length ≤ 1048576 ∧ (fitV r.v.d).kind ≤ 5)
            clear hr l1 l2 l3 hrk
            go_wp2_with fail
            with_reducible refine CC.out.mono ?_
            rintro e wb ⟨v, rfl, hv, hb5⟩
            obtain ⟨p1, rfl, hp1, hpd1, -, hpb1⟩ := pv_of hv (by have := HF.out.2.2.2.2; omega) HF.out.2.1 HF.out.2.2.1 HF.out.2.2.2.1
            have H5 := Lib.hid (HTa.out.on (sstb s) noSt_stb hb5).1
            have HSb := Lib.hid (HSa.out.on (sstb s) noSt_stb HTa.out HX.out.1 hb5)
            have CP := Lib.hid (tput noSt_stb H5.out (by show D.n + 0 ≤ 100000; have := HDb.out; omega) ⟨#[98]⟩ [98] key_b p1 hp1 (fun k hk => Or.inr (hpb1 k hk)) (by rw [hpd1]; exact HF.out.1))
            rw [hpd1] at CP
            clear CC hv hb5 hp1 hpd1 hpb1
            unfold PV.agg
            unfold PV.agg at CP
            go_wp2_with fail
            refine CP.out.mono ?_
            rintro e wc ⟨rfl, h6, hk6⟩
            have HTe := Lib.hid (h6.less (Y := X1) (fun k hk => Or.inl hk))
            have HSe := Lib.hid (HSb.out.keep hk6 (fun k hk => Or.inl (HX.out.1 k hk)))
            clear CP h6 hk6 H5 HF HSb
            go_wp2_with fail
            go_meet
            exact ⟨_, HDe, HAe, HSe, HTe⟩
        case rest =>
          obtain ⟨D1, HD1, HA1, HS1, HT1⟩ := hcut
          have HD2 := Lib.hid (show D1.n + 9 ≤ 100000 by have := HDb.out; have := HD1.out; omega)
          have HD3 := Lib.hid (show D1.n + 2 ≤ 2 + 5 * (j + 1) by have := HDn.out; have := HD1.out; omega)
          have HT2 := Lib.hid (HT1.out.less (Y := XV g p) HX.out.1)
          have HS2 := Lib.hid HS1.out
          have HA2 := Lib.hid ((HA1.out.get [97]).get [97])
          have hv2 := HA1.out.vals
          have HVg := Lib.hid (show (getV [97] (getS [97] D1).L).getD v0 = p.d by
            have h := (HA1.out.get [97]).vals.2
            by_cases hz : p.d.kind = 0
            · rw [if_pos hz] at h
              rw [h]
              exact (right_none HR.out hz).symm
            · rw [if_neg hz] at h
              exact h)
          clear hways hrt hrr HDb HD1 HT1 HS1 HA1 HX HTa HSa HCa HA HDn HRo
          clear o0 o2 o3 o4 o5 o6 o7 o8
          by_cases hz : p.d.kind = 0
          · rw [if_pos hz] at hv2
            have hk0 : (p.k != 0) = false := by rw [HPk.out, hz]; rfl
            have HV2 := Lib.hid hv2
            clear hv2 hz
            have CD := Lib.hid (tdue noSt_stb HT2.out (by have := HD2.out; omega) ⟨#[97]⟩ [97] key_a)
            rw [HV2.out.1] at CD
            go_wp2_with fail
            refine CD.out.mono ?_
            rintro e wa ⟨rfl, hx, hk⟩
            have HT3 := Lib.hid (show Tw (SSt s) NoSt w (XV g p) wa (getS [97] D1) s0 from hx)
            have HS3 := Lib.hid (HS2.out.keep hk (fun k hk => hk))
            have HGd := Lib.hid ((HT3.out.on (sstb s) noSt_stb (Below.refl wa.heap.size wa).drew).1.less (Y := XV g p) (fun k hk => Or.inl hk))
            have HGs := Lib.hid (HS3.out.on (sstb s) noSt_stb HT3.out (fun k hk => hk) (Below.refl wa.heap.size wa).drew)
            have CG := Lib.hid (fun W (hW : Tw (SSt s) NoSt w (XV g p) W (getS [97] D1) s0) => tget noSt_stb hW (by show D1.n + 1 ≤ 100000; have := HD2.out; omega) ⟨#[97]⟩ [97] key_a)
            clear CD hx hk HT2 HS2 HS3 HT3
            go_wp2_with fail
            go_region_held (fun W => Hid (VS W g p) ∧ W.cell? ⟨g, 0, none⟩ = some (.int .u8 p.k) ∧ W.cell? ⟨g, 1, none⟩ = some (.string p.S) ∧ W.cell? ⟨g, 2, none⟩ = some (.slice p.ql p.nl p.cl) ∧ W.cell? ⟨g, 3, none⟩ = some (.slice p.qh p.nh p.ch) ∧ W.cell? ⟨g, 4, none⟩ = some (.slice p.qz p.nz p.cz)) (first | exact ⟨by assumption, (Hid.out (by assumption : Hid (VS _ g p))).cells⟩)
              (first
              | (go_at_call 13; (with_reducible refine (CG.out _ (Hid.out (by assumption))).mono ?_); rintro e wb ⟨p1, rfl, hp1, hd1, h5, hk5⟩
                 have HS5 := Lib.hid (VS.keep (Hid.out (by assumption)) hk5 (fun k hk => hk))
                 have HT5 := Lib.hid (h5.less (Y := XV g p) (fun k hk => Or.inl hk))
                 have CS := Lib.hid (same_any p1.k p1.S p1.ql p1.nl p1.cl p1.qh p1.nh p1.ch p1.qz p1.nz p1.cz p1.d p.k p.S p.ql p.nl p.cl p.qh p.nh p.ch p.qz p.nz p.cz p.d wb hp1 HS5.out.i)
                 rw [show sameB p1.d p.d = true from decide_eq_true (hd1.trans HVg.out)] at CS
                 unfold PV.agg
                 clear hp1 hd1 h5 hk5)
              | (go_at_call 33; (with_reducible refine CS.out.mono ?_); rintro e wc ⟨rfl, hb⟩
                 have HS6 := Lib.hid (HS5.out.on (sstb s) noSt_stb HT5.out (fun k hk => hk) hb)
                 have HT6 := Lib.hid ((HT5.out.on (sstb s) noSt_stb hb).1.less (Y := XV g p) (fun k hk => Or.inl hk))
                 clear hb))
            obtain ⟨c0, -, -, -, -⟩ := HS6.out.cells
            have CC := Lib.hid (tversion noSt_stb HT6.out (by show D1.n + 2 ≤ 100000; have := HD2.out; omega) ⟨#[97]⟩ [97] key_a)
            rw [show (getS [97] (getS [97] D1)).C [97] = N from HA2.out.c] at CC
            go_wp2_with fail
            refine CC.out.mono ?_
            rintro e wd ⟨rfl, hx, hk⟩
            have HT7 := Lib.hid hx
            have HS7 := Lib.hid (HS6.out.keep hk (fun k hk => hk))
            clear CC hx hk HS6 HT6 c0
            go_wp2_with fail
            go_roundw
            case rel => exact ⟨j + 1, getS [97] (getS [97] D1), by omega, by omega, by go_num, Lib.hid (by show D1.n + 2 ≤ _; exact HD3.out), HA2, HS7, HT7⟩
            case measure => simp [intOf]; omega
          · rw [if_neg hz] at hv2
            have hk0 : (p.k != 0) = true := by rw [HPk.out, bne_iff_ne]; omega
            have hxx : ((1 : Int) + x != 1 + x) = false := bne_self_eq_false _
            have HV2 := Lib.hid hv2
            clear hv2 hz
            have CD := Lib.hid (tdue noSt_stb HT2.out (by have := HD2.out; omega) ⟨#[97]⟩ [97] key_a)
            rw [HV2.out.1] at CD
            go_wp2_with fail
            refine CD.out.mono ?_
            rintro e wa ⟨rfl, hx, hk⟩
            have HT3 := Lib.hid (show Tw (SSt s) NoSt w (XV g p) wa (getS [97] D1) s0 from hx)
            have HS3 := Lib.hid (HS2.out.keep hk (fun k hk => hk))
            have HGd := Lib.hid ((HT3.out.on (sstb s) noSt_stb (Below.refl wa.heap.size wa).drew).1.less (Y := XV g p) (fun k hk => Or.inl hk))
            have HGs := Lib.hid (HS3.out.on (sstb s) noSt_stb HT3.out (fun k hk => hk) (Below.refl wa.heap.size wa).drew)
            have CG := Lib.hid (fun W (hW : Tw (SSt s) NoSt w (XV g p) W (getS [97] D1) s0) => tget noSt_stb hW (by show D1.n + 1 ≤ 100000; have := HD2.out; omega) ⟨#[97]⟩ [97] key_a)
            clear CD hx hk HT2 HS2 HS3 HT3
            go_wp2_with fail
            go_region_held (fun W => Hid (VS W g p) ∧ W.cell? ⟨g, 0, none⟩ = some (.int .u8 p.k) ∧ W.cell? ⟨g, 1, none⟩ = some (.string p.S) ∧ W.cell? ⟨g, 2, none⟩ = some (.slice p.ql p.nl p.cl) ∧ W.cell? ⟨g, 3, none⟩ = some (.slice p.qh p.nh p.ch) ∧ W.cell? ⟨g, 4, none⟩ = some (.slice p.qz p.nz p.cz)) (first | exact ⟨by assumption, (Hid.out (by assumption : Hid (VS _ g p))).cells⟩)
              (first
              | (go_at_call 13; (with_reducible refine (CG.out _ (Hid.out (by assumption))).mono ?_); rintro e wb ⟨p1, rfl, hp1, hd1, h5, hk5⟩
                 have HS5 := Lib.hid (VS.keep (Hid.out (by assumption)) hk5 (fun k hk => hk))
                 have HT5 := Lib.hid (h5.less (Y := XV g p) (fun k hk => Or.inl hk))
                 have CS := Lib.hid (same_any p1.k p1.S p1.ql p1.nl p1.cl p1.qh p1.nh p1.ch p1.qz p1.nz p1.cz p1.d p.k p.S p.ql p.nl p.cl p.qh p.nh p.ch p.qz p.nz p.cz p.d wb hp1 HS5.out.i)
                 rw [show sameB p1.d p.d = true from decide_eq_true (hd1.trans HVg.out)] at CS
                 unfold PV.agg
                 clear hp1 hd1 h5 hk5)
              | (go_at_call 33; (with_reducible refine CS.out.mono ?_); rintro e wc ⟨rfl, hb⟩
                 have HS6 := Lib.hid (HS5.out.on (sstb s) noSt_stb HT5.out (fun k hk => hk) hb)
                 have HT6 := Lib.hid ((HT5.out.on (sstb s) noSt_stb hb).1.less (Y := XV g p) (fun k hk => Or.inl hk))
                 clear hb))
            obtain ⟨c0, -, -, -, -⟩ := HS6.out.cells
            have CC := Lib.hid (tversion noSt_stb HT6.out (by show D1.n + 2 ≤ 100000; have := HD2.out; omega) ⟨#[97]⟩ [97] key_a)
            rw [show (getS [97] (getS [97] D1)).C [97] = N from HA2.out.c] at CC
            go_wp2_with fail
            refine CC.out.mono ?_
            rintro e wd ⟨rfl, hx, hk⟩
            have HT7 := Lib.hid hx
            have HS7 := Lib.hid (HS6.out.keep hk (fun k hk => hk))
            clear CC hx hk HS6 HT6 c0
            go_wp2_with fail
            go_roundw
            case rel => exact ⟨j + 1, getS [97] (getS [97] D1), by omega, by omega, by go_num, Lib.hid (by show D1.n + 2 ≤ _; exact HD3.out), HA2, HS7, HT7⟩
            case measure => simp [intOf]; omega
      · obtain rfl : j = 40 := by omega
        have d1 : decide (((40 : Nat) : Int) < (n : Int)) = true := decide_eq_true (by omega)
        have d1' : (40 : Int) < (n : Int) := by omega
        have HB := Lib.hid HT.out.below
        go_wp2_with fail
        go_ret
        exact ⟨rfl, HB.out⟩
    · have d1 : decide ((j : Int) < (n : Int)) = false := decide_eq_false (by omega)
      have HB := Lib.hid HT.out.below
      go_wp2_with fail
      go_ret
      exact ⟨rfl, HB.out⟩

end Go.Proofs.Ytbcjgkedlapmhaa.storeApart
