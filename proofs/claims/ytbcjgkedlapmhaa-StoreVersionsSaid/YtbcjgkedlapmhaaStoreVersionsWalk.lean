/-
  StoreVersions: something that became of a key is counted, each time, and what only looks at it is not.
-/
import Derived.Test.YtbcjgkedlapmhaaOpRow
import Derived.Test.YtbcjgkedlapmhaaStoVers
namespace Go.Proofs.Ytbcjgkedlapmhaa.storeVersions
open Go.RowKit Kit StrT RowG BOrd ValT StoT StoM StoL RefV
set_option linter.unusedVariables false
set_option maxRecDepth 100000
-- ASKS: 

theorem kd_zero {k : Int} {n : Nat} (h : k = (n : Int)) : (k == 0) = decide (n = 0) ∧ (k != 0) = decide (n ≠ 0) := by
  subst h
  constructor
  · rw [Bool.eq_iff_iff, beq_iff_eq, decide_eq_true_eq]; omega
  · rw [Bool.eq_iff_iff, bne_iff_ne, decide_eq_true_eq]; omega
set_option maxHeartbeats 40000000 in
theorem walk (q : Option Addr) (L : List OpR) (n c : Nat) (w : World) (hL : L.length = n) (h : Rs opE w q L) (hok : ∀ r ∈ L, r.Ok w) (hcm : n ≤ 9223372036854775807) :
    Calls Try.prog 6 #[.slice q n c] w fun e w' => e = .returned (.bool true) ∧ Below w.heap.size w w' := by
  have C0 := Lib.hid (shown_any w)
  have HU := Lib.hid h
  have HN := Lib.hid hL
  have HOk := Lib.hid hok
  clear h hL hok
  go_enter Try.func6, Try.ntmps6
  go_wp2_with fail
  refine C0.out.mono ?_
  rintro e w1 ⟨rfl, hb1⟩
  have CN := Lib.hid (tnew w w1 hb1)
  clear hb1 C0
  go_wp2_with fail
  refine CN.out.mono ?_
  rintro e w2 ⟨s, rfl, h2, -⟩
  have H2 := Lib.hid (h2.less (Y := fun _ => False) (fun k hk => hk.elim))
  clear h2 CN
  go_wp2_with fail
  go_loopw [5] (fun i wr => ∃ (j : Nat) (D : Sd V), j ≤ n ∧ j ≤ 40 ∧ i = .int .i64 (j : Int) ∧ Hid (OneK D) ∧ Hid (D.n ≤ 10 * j) ∧ Hid (Tw (SSt s) NoSt w (fun _ => False) wr D s0)) (fun i _ => 41 - (intOf i).toNat)
  case atStart => exact ⟨0, s0, Nat.zero_le _, Nat.zero_le _, rfl, Lib.hid one_0, Lib.hid (Nat.le_refl _), H2⟩
  case round =>
    clear H2
    obtain ⟨j, D, hj, hj2, rfl, HO, HDn, HT⟩ := hrel
    by_cases hlt : j < n
    · by_cases hlt2 : j < 40
      · have d1 : decide ((j : Int) < (n : Int)) = true := decide_eq_true (by omega)
        have d2 : decide ((j : Int) < 40) = true := decide_eq_true (by omega)
        have hj0 : (0 : Int) ≤ (j : Int) := by omega
        have hjn : (j : Int) < (n : Int) := by omega
        have hjl : j < L.length := by rw [HN.out]; exact hlt
        obtain ⟨b, off, rfl, hbl, u0, u1, u2, u3, u4, u5', u6, u7, u8⟩ := op_cells (HU.out.keep HT.out.below) j hjl
        have hokr := HOk.out _ (List.getElem_mem hjl)
        generalize L[j] = r at u0 u1 u2 u3 u4 u5' u6 u7 u8 hokr
        have HR := Lib.hid hokr
        have HTa := Lib.hid ((HT.out.on (sstb s) noSt_stb (show Below wr.heap.size wr (wr.alloc (.cells #[.int .u8 r.kd, .string ⟨r.key.toArray⟩, .int .u8 r.v.k, .string r.v.S, .slice r.v.ql r.v.nl r.v.cl, .slice r.v.qh r.v.nh r.v.ch, .slice r.v.qz r.v.nz r.v.cz, .int .i64 r.n, .bool r.on] 37)) from (Below.refl _ _).alloc (Nat.le_refl _) _)).1)
        have HCa := Lib.hid (OC.new wr r)
        have HXa := Lib.hid (show wr.heap.size ≤ wr.heap.size ∧ wr.heap.size < (wr.alloc (.cells #[.int .u8 r.kd, .string ⟨r.key.toArray⟩, .int .u8 r.v.k, .string r.v.S, .slice r.v.ql r.v.nl r.v.cl, .slice r.v.qh r.v.nh r.v.ch, .slice r.v.qz r.v.nz r.v.cz, .int .i64 r.n, .bool r.on] 37)).heap.size from ⟨Nat.le_refl _, HCa.out.lt⟩)
        have hb := HTa.out.below
        have HDb := Lib.hid (show D.n + 10 ≤ 100000 by have := HDn.out; omega)
        have CVv := Lib.hid (tversion noSt_stb HTa.out (by have := HDb.out; omega) ⟨#[97]⟩ [97] key_a)
        obtain ⟨N, hN⟩ : ∃ N, N = D.C [97] := ⟨_, rfl⟩
        rw [← hN] at CVv
        have HNn := Lib.hid hN
        have hNb : (N : Int) ≤ 100000 := by
          have := HO.out.wf.cmax [97]
          have := HDb.out
          omega
        have hN0 : (0 : Int) ≤ (N : Int) := by omega
        obtain ⟨rn0, rn1⟩ := hokr.n
        obtain ⟨kd0, kd1⟩ := hokr.kd
        clear hokr hb hbl hN
        go_wp2_with fail
        generalize wr.alloc (.cells #[.int .u8 r.kd, .string ⟨r.key.toArray⟩, .int .u8 r.v.k, .string r.v.S, .slice r.v.ql r.v.nl r.v.cl, .slice r.v.qh r.v.nh r.v.ch, .slice r.v.qz r.v.nz r.v.cz, .int .i64 r.n, .bool r.on] 37) = w3 at HTa HCa HXa CVv ⊢
        refine CVv.out.mono ?_
        rintro e w4 ⟨rfl, h4, hk4⟩
        have H4 := Lib.hid h4
        have HC4 := Lib.hid (HCa.out.keep hk4 (Or.inr HXa.out))
        have CG := Lib.hid (tget noSt_stb H4.out (by have := HDb.out; omega) ⟨#[97]⟩ [97] key_a)
        clear h4 hk4 CVv HTa u0 u1 u2 u3 u4 u5' u6 u7 u8
        go_wp2_with fail
        with_reducible refine CG.out.mono ?_
        rintro e w5 ⟨p, rfl, hp, hd, h5, hk5⟩
        have hpk : p.k = (wasK D : Int) := kind_of hp hd
        have HT6 := Lib.hid (((show Tw (SSt s) NoSt w _ w5 (getS [97] D) s0 from h5).on (sstb s) noSt_stb (show Below w5.heap.size w5 (w5.alloc (.cells #[.int .u8 p.k, .string p.S, .slice p.ql p.nl p.cl, .slice p.qh p.nh p.ch, .slice p.qz p.nz p.cz] 35)) from (Below.refl _ _).alloc (Nat.le_refl _) _)).1)
        have HC6 := Lib.hid ((HC4.out.keep hk5 (Or.inr HXa.out)).below (show Below w5.heap.size w5 (w5.alloc (.cells #[.int .u8 p.k, .string p.S, .slice p.ql p.nl p.cl, .slice p.qh p.nh p.ch, .slice p.qz p.nz p.cz] 35)) from (Below.refl _ _).alloc (Nat.le_refl _) _))
        have HV6 := Lib.hid (VCells.new w5 (.int .u8 p.k) (.string p.S) (.slice p.ql p.nl p.cl) (.slice p.qh p.nh p.ch) (.slice p.qz p.nz p.cz) w5.heap.size rfl)
        have HX6 := Lib.hid (show w5.heap.size ≤ w5.heap.size ∧ w5.heap.size < (w5.alloc (.cells #[.int .u8 p.k, .string p.S, .slice p.ql p.nl p.cl, .slice p.qh p.nh p.ch, .slice p.qz p.nz p.cz] 35)).heap.size from ⟨Nat.le_refl _, HV6.out.lt⟩)
        have hkz := kd_zero hpk
        have HOg := Lib.hid (one_get HO.out)
        have HWg := Lib.hid (was_get D)
        unfold PV.agg
        obtain ⟨o0, -, o2, o3, o4, o5, o6, o7, o8⟩ := HC6.out.at_
        obtain ⟨-, -, c0, -, -, -, -⟩ := HV6.out
        clear hp hd h5 hk5 CG H4 HC4
        obtain ⟨pz, hpz⟩ : ∃ b, b = decide (wasK D = 0) := ⟨_, rfl⟩
        have hpz2 : decide (wasK D ≠ 0) = !pz := by rw [hpz]; simp
        rw [hpz2, ← hpz] at hkz
        obtain ⟨kz1, kz2⟩ := hkz
        have HPz := Lib.hid hpz
        obtain ⟨X, hX⟩ : ∃ X : Nat → Prop, X = fun k => k = wr.heap.size ∨ k = w5.heap.size := ⟨_, rfl⟩
        have HT7 := Lib.hid (HT6.out.less (Y := X) (fun k hk => by
          rw [hX] at hk
          rcases hk with rfl | rfl
          · exact Or.inl (Or.inl (Or.inr HXa.out))
          · exact Or.inr HX6.out))
        have HXo := Lib.hid (show X wr.heap.size by rw [hX]; exact Or.inl rfl)
        have HXv := Lib.hid (show X w5.heap.size by rw [hX]; exact Or.inr rfl)
        clear hpz hpz2 hX HX6 HXa HCa HT6 hpk
        have hn1 : (getS [97] D).n = D.n + 1 := rfl
        obtain ⟨rr, hrr⟩ : ∃ rr, r.kd % 8 = rr := ⟨_, rfl⟩
        have hrt : r.kd.tmod 8 = rr := by rw [Int.tmod_eq_emod_of_nonneg kd0]; exact hrr
        have hways : (rr = 2) ∨ (rr = 3) ∨ (rr = 4) ∨ (rr = 5) ∨ (rr = 6) ∨ (rr = 7) ∨ ((rr == 2) = false ∧ (rr == 3) = false ∧ (rr == 4) = false ∧ (rr == 5) = false ∧ (rr == 6) = false ∧ (rr == 7) = false) := by
          simp only [beq_eq_false_iff_ne]
          omega
        have HD1 := Lib.hid (show (getS [97] D).n + 8 ≤ 100000 by rw [hn1]; have := HDb.out; omega)
        have HDr := Lib.hid (show D.n + 8 ≤ 10 * (j + 1) by have := HDn.out; omega)
        have hbs := (show Below w5.heap.size w5 (w5.alloc (.cells #[.int .u8 p.k, .string p.S, .slice p.ql p.nl p.cl, .slice p.qh p.nh p.ch, .slice p.qz p.nz p.cz] 35)) from (Below.refl _ _).alloc (Nat.le_refl _) _).size
        clear hbs hn1
        rcases hways with rfl | rfl | rfl | rfl | rfl | rfl | ⟨s2, s3, s4, s5, s6, s7⟩
        · have CC := Lib.hid (tget noSt_stb HT7.out (by show (getS [97] D).n + 0 ≤ 100000; have := HD1.out; omega) ⟨#[97]⟩ [97] key_a)
          go_wp2_with fail
          with_reducible refine CC.out.mono ?_
          rintro e w7 ⟨p2, rfl, -, -, h7, -⟩
          have HT8 := Lib.hid ((show Tw (SSt s) NoSt w _ w7 (getS [97] (getS [97] D)) s0 from h7).less (Y := X) (fun k hk => Or.inl hk))
          clear h7 CC
          have HO8 := Lib.hid (one_get HOg.out)
          have HC8 := Lib.hid (show ((getS [97] (getS [97] D))).C [97] = N from HNn.out.symm)
          have HEn := Lib.hid (show ((getS [97] (getS [97] D))).n ≤ 10 * (j + 1) by show D.n + 2 ≤ _; have := HDr.out; omega)
          have CE := Lib.hid (show Calls Try.prog 31 #[.pointer (some ⟨s, 0, none⟩), .string ⟨#[97]⟩] w7 fun e w' => e = .returned (.int .i64 ((N : Int))) ∧ Tw (SSt s) NoSt w X w' (getS [97] (getS [97] D)) s0 ∧ Keep X w7 w' from by
            have h := tversion noSt_stb HT8.out (by show (getS [97] D).n + 1 ≤ 100000; have := HD1.out; omega) ⟨#[97]⟩ [97] key_a
            rw [HC8.out] at h
            exact h)
          have CF := Lib.hid (fun W (hW : Tw (SSt s) NoSt w X W (getS [97] (getS [97] D)) s0) => (show Calls Try.prog 31 #[.pointer (some ⟨s, 0, none⟩), .string ⟨#[98]⟩] W fun e w' => e = .returned (.int .i64 0) ∧ Tw (SSt s) NoSt w X w' (getS [97] (getS [97] D)) s0 ∧ Keep X W w' from by
            have h := tversion noSt_stb hW (by show (getS [97] D).n + 1 ≤ 100000; have := HD1.out; omega) ⟨#[98]⟩ [98] key_b
            rw [HO8.out.cb] at h
            exact h))
          go_wp2_with (first
            | (go_at_call 31; with_reducible refine CE.out.mono ?_; rintro e wy ⟨rfl, hy, -⟩; have HTy := Lib.hid hy; clear hy CE)
            | (go_at_call 31; with_reducible refine (CF.out _ HTy.out).mono ?_; rintro e wz ⟨rfl, hz, -⟩; have HTz := Lib.hid (hz.less (Y := fun _ => False) (fun k hk => hk.elim)); clear hz))
          go_roundw
          case rel => exact ⟨j + 1, (getS [97] (getS [97] D)), by omega, by omega, by go_num, HO8, HEn, HTz⟩
          case measure => simp [intOf]; omega
        · have HSd := Lib.hid (one_due HOg.out r.n r.on)
          have hnn : (setDueS [97] r.n r.on (getS [97] D)).n = D.n + 2 := by
            unfold setDueS
            split
            · split <;> rfl
            · rfl
          have HNs := Lib.hid hnn
          clear hnn
          have CC := Lib.hid (tsetdue noSt_stb HT7.out (by show (getS [97] D).n + 0 ≤ 100000; have := HD1.out; omega) ⟨#[97]⟩ [97] r.n r.on key_a)
          cases hsb : setDueB [97] (getS [97] D) with
          | true =>
            rw [hsb] at CC
            have HC8 := Lib.hid (show ((setDueS [97] r.n r.on (getS [97] D))).C [97] = N + 1 by have h := HSd.out.2; rw [hsb] at h; rw [HNn.out]; exact h)
            clear hsb
            go_wp2_with fail
            refine CC.out.mono ?_
            rintro e w7 ⟨rfl, h7, -⟩
            have HT8 := Lib.hid (show Tw (SSt s) NoSt w X w7 (setDueS [97] r.n r.on (getS [97] D)) s0 from h7)
            clear h7 CC
            have HO8 := Lib.hid HSd.out.1
            have HEn := Lib.hid (show ((setDueS [97] r.n r.on (getS [97] D))).n ≤ 10 * (j + 1) by rw [HNs.out]; have := HDr.out; omega)
            have CE := Lib.hid (show Calls Try.prog 31 #[.pointer (some ⟨s, 0, none⟩), .string ⟨#[97]⟩] w7 fun e w' => e = .returned (.int .i64 ((N : Int) + 1)) ∧ Tw (SSt s) NoSt w X w' (setDueS [97] r.n r.on (getS [97] D)) s0 ∧ Keep X w7 w' from by
              have h := tversion noSt_stb HT8.out (by rw [HNs.out]; have := HD1.out; show D.n + 2 ≤ 100000; have h : (getS [97] D).n = D.n + 1 := rfl; omega) ⟨#[97]⟩ [97] key_a
              rw [HC8.out] at h
              exact h)
            have CF := Lib.hid (fun W (hW : Tw (SSt s) NoSt w X W (setDueS [97] r.n r.on (getS [97] D)) s0) => (show Calls Try.prog 31 #[.pointer (some ⟨s, 0, none⟩), .string ⟨#[98]⟩] W fun e w' => e = .returned (.int .i64 0) ∧ Tw (SSt s) NoSt w X w' (setDueS [97] r.n r.on (getS [97] D)) s0 ∧ Keep X W w' from by
              have h := tversion noSt_stb hW (by rw [HNs.out]; have := HD1.out; show D.n + 2 ≤ 100000; have h : (getS [97] D).n = D.n + 1 := rfl; omega) ⟨#[98]⟩ [98] key_b
              rw [HO8.out.cb] at h
              exact h))
            go_wp2_with (first
              | (go_at_call 31; with_reducible refine CE.out.mono ?_; rintro e wy ⟨rfl, hy, -⟩; have HTy := Lib.hid hy; clear hy CE)
              | (go_at_call 31; with_reducible refine (CF.out _ HTy.out).mono ?_; rintro e wz ⟨rfl, hz, -⟩; have HTz := Lib.hid (hz.less (Y := fun _ => False) (fun k hk => hk.elim)); clear hz))
            go_roundw
            case rel => exact ⟨j + 1, (setDueS [97] r.n r.on (getS [97] D)), by omega, by omega, by go_num, HO8, HEn, HTz⟩
            case measure => simp [intOf]; omega
          | false =>
            rw [hsb] at CC
            have HC8 := Lib.hid (show ((setDueS [97] r.n r.on (getS [97] D))).C [97] = N by have h := HSd.out.2; rw [hsb] at h; rw [HNn.out]; exact h)
            clear hsb
            go_wp2_with fail
            refine CC.out.mono ?_
            rintro e w7 ⟨rfl, h7, -⟩
            have HT8 := Lib.hid (show Tw (SSt s) NoSt w X w7 (setDueS [97] r.n r.on (getS [97] D)) s0 from h7)
            clear h7 CC
            have HO8 := Lib.hid HSd.out.1
            have HEn := Lib.hid (show ((setDueS [97] r.n r.on (getS [97] D))).n ≤ 10 * (j + 1) by rw [HNs.out]; have := HDr.out; omega)
            have CE := Lib.hid (show Calls Try.prog 31 #[.pointer (some ⟨s, 0, none⟩), .string ⟨#[97]⟩] w7 fun e w' => e = .returned (.int .i64 ((N : Int))) ∧ Tw (SSt s) NoSt w X w' (setDueS [97] r.n r.on (getS [97] D)) s0 ∧ Keep X w7 w' from by
              have h := tversion noSt_stb HT8.out (by rw [HNs.out]; have := HD1.out; show D.n + 2 ≤ 100000; have h : (getS [97] D).n = D.n + 1 := rfl; omega) ⟨#[97]⟩ [97] key_a
              rw [HC8.out] at h
              exact h)
            have CF := Lib.hid (fun W (hW : Tw (SSt s) NoSt w X W (setDueS [97] r.n r.on (getS [97] D)) s0) => (show Calls Try.prog 31 #[.pointer (some ⟨s, 0, none⟩), .string ⟨#[98]⟩] W fun e w' => e = .returned (.int .i64 0) ∧ Tw (SSt s) NoSt w X w' (setDueS [97] r.n r.on (getS [97] D)) s0 ∧ Keep X W w' from by
              have h := tversion noSt_stb hW (by rw [HNs.out]; have := HD1.out; show D.n + 2 ≤ 100000; have h : (getS [97] D).n = D.n + 1 := rfl; omega) ⟨#[98]⟩ [98] key_b
              rw [HO8.out.cb] at h
              exact h))
            go_wp2_with (first
              | (go_at_call 31; with_reducible refine CE.out.mono ?_; rintro e wy ⟨rfl, hy, -⟩; have HTy := Lib.hid hy; clear hy CE)
              | (go_at_call 31; with_reducible refine (CF.out _ HTy.out).mono ?_; rintro e wz ⟨rfl, hz, -⟩; have HTz := Lib.hid (hz.less (Y := fun _ => False) (fun k hk => hk.elim)); clear hz))
            go_roundw
            case rel => exact ⟨j + 1, (setDueS [97] r.n r.on (getS [97] D)), by omega, by omega, by go_num, HO8, HEn, HTz⟩
            case measure => simp [intOf]; omega
        · have HTk := Lib.hid (one_tick HO.out r.n)
          have CC := Lib.hid (ttick noSt_stb HT7.out (by show (getS [97] D).n + 0 ≤ 100000; have := HD1.out; omega) r.n rn0 rn1)
          go_wp2_with fail
          refine CC.out.mono ?_
          rintro e w7 ⟨rfl, h7, hk7⟩
          have HT8 := Lib.hid (show Tw (SSt s) NoSt w X w7 (tickS r.n (getS [97] D)) s0 from h7)
          have HV8 := Lib.hid (keep_cells HV6.out hk7 HXv.out)
          have HO8 := Lib.hid HTk.out.1
          clear h7 CC hk7 c0
          rcases HTk.out.2 with hc | ⟨hc, hw, hg⟩
          · have HC8 := Lib.hid (show ((tickS r.n (getS [97] D))).C [97] = N by rw [HNn.out]; exact hc)
            have CC := Lib.hid (show Calls Try.prog 31 #[.pointer (some ⟨s, 0, none⟩), .string ⟨#[97]⟩] w7 fun e w' => e = .returned (.int .i64 ((N : Int))) ∧ Tw (SSt s) NoSt w X w' (tickS r.n (getS [97] D)) s0 ∧ Keep X w7 w' from by
              have h := tversion noSt_stb HT8.out (by show (getS [97] D).n + 1 ≤ 100000; have := HD1.out; omega) ⟨#[97]⟩ [97] key_a
              rw [HC8.out] at h
              exact h)
            have hnn : ((N : Int) != (N : Int)) = false := bne_self_eq_false _
            clear hc
            go_wp2_with fail
            refine CC.out.mono ?_
            rintro e w8 ⟨rfl, h8, -⟩
            have HT9 := Lib.hid h8
            clear h8 CC
            have HEn := Lib.hid (show ((tickS r.n (getS [97] D))).n ≤ 10 * (j + 1) by show D.n + 2 ≤ _; have := HDr.out; omega)
            have CE := Lib.hid (show Calls Try.prog 31 #[.pointer (some ⟨s, 0, none⟩), .string ⟨#[97]⟩] w8 fun e w' => e = .returned (.int .i64 ((N : Int))) ∧ Tw (SSt s) NoSt w X w' (tickS r.n (getS [97] D)) s0 ∧ Keep X w8 w' from by
              have h := tversion noSt_stb HT9.out (by show (getS [97] D).n + 1 ≤ 100000; have := HD1.out; omega) ⟨#[97]⟩ [97] key_a
              rw [HC8.out] at h
              exact h)
            have CF := Lib.hid (fun W (hW : Tw (SSt s) NoSt w X W (tickS r.n (getS [97] D)) s0) => (show Calls Try.prog 31 #[.pointer (some ⟨s, 0, none⟩), .string ⟨#[98]⟩] W fun e w' => e = .returned (.int .i64 0) ∧ Tw (SSt s) NoSt w X w' (tickS r.n (getS [97] D)) s0 ∧ Keep X W w' from by
              have h := tversion noSt_stb hW (by show (getS [97] D).n + 1 ≤ 100000; have := HD1.out; omega) ⟨#[98]⟩ [98] key_b
              rw [HO8.out.cb] at h
              exact h))
            go_wp2_with (first
              | (go_at_call 31; with_reducible refine CE.out.mono ?_; rintro e wy ⟨rfl, hy, -⟩; have HTy := Lib.hid hy; clear hy CE)
              | (go_at_call 31; with_reducible refine (CF.out _ HTy.out).mono ?_; rintro e wz ⟨rfl, hz, -⟩; have HTz := Lib.hid (hz.less (Y := fun _ => False) (fun k hk => hk.elim)); clear hz))
            go_roundw
            case rel => exact ⟨j + 1, (tickS r.n (getS [97] D)), by omega, by omega, by go_num, HO8, HEn, HTz⟩
            case measure => simp [intOf]; omega
          · have HC8 := Lib.hid (show ((tickS r.n (getS [97] D))).C [97] = N + 1 by rw [HNn.out]; exact hc)
            have CC := Lib.hid (show Calls Try.prog 31 #[.pointer (some ⟨s, 0, none⟩), .string ⟨#[97]⟩] w7 fun e w' => e = .returned (.int .i64 ((N : Int) + 1)) ∧ Tw (SSt s) NoSt w X w' (tickS r.n (getS [97] D)) s0 ∧ Keep X w7 w' from by
              have h := tversion noSt_stb HT8.out (by show (getS [97] D).n + 1 ≤ 100000; have := HD1.out; omega) ⟨#[97]⟩ [97] key_a
              rw [HC8.out] at h
              exact h)
            have hnn : ((N : Int) + 1 != (N : Int)) = true := by rw [bne_iff_ne]; omega
            have HGv := Lib.hid hg
            have hpzf : pz = false := by rw [HPz.out]; exact decide_eq_false hw
            subst hpzf
            clear hc hg hw
            go_wp2_with fail
            refine CC.out.mono ?_
            rintro e w8 ⟨rfl, h8, hk8⟩
            have HT9 := Lib.hid h8
            have HV9 := Lib.hid (keep_cells HV8.out hk8 HXv.out)
            have CG := Lib.hid (tget noSt_stb HT9.out (by show (getS [97] D).n + 1 ≤ 100000; have := HD1.out; omega) ⟨#[97]⟩ [97] key_a)
            clear h8 CC hk8
            go_wp2_with fail
            with_reducible refine CG.out.mono ?_
            rintro e w9 ⟨p2, rfl, hp2, hd2, h9, hk9⟩
            have ek : p2.k = 0 := (kind_of hp2 hd2).trans (by rw [HGv.out]; rfl)
            have HTa := Lib.hid ((show Tw (SSt s) NoSt w _ w9 (getS [97] (tickS r.n (getS [97] D))) s0 from h9).less (Y := X) (fun k hk => Or.inl hk))
            have HVa := Lib.hid (keep_cells HV9.out hk9 HXv.out)
            have hf := fun W => fld_kind 0 p2.S (.slice p2.ql p2.nl p2.cl) (.slice p2.qh p2.nh p2.ch) (.slice p2.qz p2.nz p2.cz) W
            unfold PV.agg
            rw [ek]
            obtain ⟨-, -, c0, -, -, -, -⟩ := HVa.out
            clear hp2 hd2 h9 hk9 CG ek
            have HOa := Lib.hid (one_get HO8.out)
            have HCa := Lib.hid (show ((getS [97] (tickS r.n (getS [97] D)))).C [97] = N + 1 from HC8.out)
            have HEn := Lib.hid (show ((getS [97] (tickS r.n (getS [97] D)))).n ≤ 10 * (j + 1) by show D.n + 3 ≤ _; have := HDr.out; omega)
            have CE := Lib.hid (show Calls Try.prog 31 #[.pointer (some ⟨s, 0, none⟩), .string ⟨#[97]⟩] w9 fun e w' => e = .returned (.int .i64 ((N : Int) + 1)) ∧ Tw (SSt s) NoSt w X w' (getS [97] (tickS r.n (getS [97] D))) s0 ∧ Keep X w9 w' from by
              have h := tversion noSt_stb HTa.out (by show (getS [97] D).n + 2 ≤ 100000; have := HD1.out; omega) ⟨#[97]⟩ [97] key_a
              rw [HCa.out] at h
              exact h)
            have CF := Lib.hid (fun W (hW : Tw (SSt s) NoSt w X W (getS [97] (tickS r.n (getS [97] D))) s0) => (show Calls Try.prog 31 #[.pointer (some ⟨s, 0, none⟩), .string ⟨#[98]⟩] W fun e w' => e = .returned (.int .i64 0) ∧ Tw (SSt s) NoSt w X w' (getS [97] (tickS r.n (getS [97] D))) s0 ∧ Keep X W w' from by
              have h := tversion noSt_stb hW (by show (getS [97] D).n + 2 ≤ 100000; have := HD1.out; omega) ⟨#[98]⟩ [98] key_b
              rw [HOa.out.cb] at h
              exact h))
            go_wp2_with (first
              | (go_at_call 31; with_reducible refine CE.out.mono ?_; rintro e wy ⟨rfl, hy, -⟩; have HTy := Lib.hid hy; clear hy CE)
              | (go_at_call 31; with_reducible refine (CF.out _ HTy.out).mono ?_; rintro e wz ⟨rfl, hz, -⟩; have HTz := Lib.hid (hz.less (Y := fun _ => False) (fun k hk => hk.elim)); clear hz))
            go_roundw
            case rel => exact ⟨j + 1, (getS [97] (tickS r.n (getS [97] D))), by omega, by omega, by go_num, HOa, HEn, HTz⟩
            case measure => simp [intOf]; omega
        · have HPn := Lib.hid (one_any HOg.out v0)
          have hnn : (putAny [97] v0 (getS [97] D)).n = D.n + 2 := by
            unfold putAny goneS
            rw [if_pos (show v0.kind = 0 from rfl)]
            split <;> rfl
          have HNs := Lib.hid hnn
          have CC := Lib.hid (tput noSt_stb HT7.out (by show (getS [97] D).n + 0 ≤ 100000; have := HD1.out; omega) ⟨#[97]⟩ [97] key_a pv0 (pv0_in _) (fun k hk => absurd hk (pv0_at k)) (Or.inl ⟨rfl, rfl, rfl, rfl, rfl⟩))
          clear hnn
          go_wp2_with fail
          refine CC.out.mono ?_
          rintro e w7 ⟨rfl, h7, hk7⟩
          have HT8 := Lib.hid (show Tw (SSt s) NoSt w X w7 (putAny [97] v0 (getS [97] D)) s0 from h7)
          have HV8 := Lib.hid (keep_cells HV6.out hk7 HXv.out)
          have HO8 := Lib.hid HPn.out.1
          have HEn := Lib.hid (show ((putAny [97] v0 (getS [97] D))).n ≤ 10 * (j + 1) by rw [HNs.out]; have := HDr.out; omega)
          clear h7 CC hk7 c0
          obtain ⟨-, -, c0, -, -, -, -⟩ := HV8.out
          cases pz with
          | true =>
            have HC8 := Lib.hid (show ((putAny [97] v0 (getS [97] D))).C [97] = N by have h := HPn.out.2; rw [if_neg (fun h => h.elim (fun h => h rfl) (fun h => h (by rw [HWg.out]; exact of_decide_eq_true HPz.out.symm)))] at h; rw [HNn.out]; exact h)
            have CE := Lib.hid (show Calls Try.prog 31 #[.pointer (some ⟨s, 0, none⟩), .string ⟨#[97]⟩] w7 fun e w' => e = .returned (.int .i64 ((N : Int))) ∧ Tw (SSt s) NoSt w X w' (putAny [97] v0 (getS [97] D)) s0 ∧ Keep X w7 w' from by
              have h := tversion noSt_stb HT8.out (by rw [HNs.out]; have := HD1.out; have h : (getS [97] D).n = D.n + 1 := rfl; omega) ⟨#[97]⟩ [97] key_a
              rw [HC8.out] at h
              exact h)
            have CF := Lib.hid (fun W (hW : Tw (SSt s) NoSt w X W (putAny [97] v0 (getS [97] D)) s0) => (show Calls Try.prog 31 #[.pointer (some ⟨s, 0, none⟩), .string ⟨#[98]⟩] W fun e w' => e = .returned (.int .i64 0) ∧ Tw (SSt s) NoSt w X w' (putAny [97] v0 (getS [97] D)) s0 ∧ Keep X W w' from by
              have h := tversion noSt_stb hW (by rw [HNs.out]; have := HD1.out; have h : (getS [97] D).n = D.n + 1 := rfl; omega) ⟨#[98]⟩ [98] key_b
              rw [HO8.out.cb] at h
              exact h))
            go_wp2_with (first
              | (go_at_call 31; with_reducible refine CE.out.mono ?_; rintro e wy ⟨rfl, hy, -⟩; have HTy := Lib.hid hy; clear hy CE)
              | (go_at_call 31; with_reducible refine (CF.out _ HTy.out).mono ?_; rintro e wz ⟨rfl, hz, -⟩; have HTz := Lib.hid (hz.less (Y := fun _ => False) (fun k hk => hk.elim)); clear hz))
            go_roundw
            case rel => exact ⟨j + 1, (putAny [97] v0 (getS [97] D)), by omega, by omega, by go_num, HO8, HEn, HTz⟩
            case measure => simp [intOf]; omega
          | false =>
            have HC8 := Lib.hid (show ((putAny [97] v0 (getS [97] D))).C [97] = N + 1 by have h := HPn.out.2; rw [if_pos (Or.inr (by rw [HWg.out]; exact of_decide_eq_false HPz.out.symm))] at h; rw [HNn.out]; exact h)
            have CE := Lib.hid (show Calls Try.prog 31 #[.pointer (some ⟨s, 0, none⟩), .string ⟨#[97]⟩] w7 fun e w' => e = .returned (.int .i64 ((N : Int) + 1)) ∧ Tw (SSt s) NoSt w X w' (putAny [97] v0 (getS [97] D)) s0 ∧ Keep X w7 w' from by
              have h := tversion noSt_stb HT8.out (by rw [HNs.out]; have := HD1.out; have h : (getS [97] D).n = D.n + 1 := rfl; omega) ⟨#[97]⟩ [97] key_a
              rw [HC8.out] at h
              exact h)
            have CF := Lib.hid (fun W (hW : Tw (SSt s) NoSt w X W (putAny [97] v0 (getS [97] D)) s0) => (show Calls Try.prog 31 #[.pointer (some ⟨s, 0, none⟩), .string ⟨#[98]⟩] W fun e w' => e = .returned (.int .i64 0) ∧ Tw (SSt s) NoSt w X w' (putAny [97] v0 (getS [97] D)) s0 ∧ Keep X W w' from by
              have h := tversion noSt_stb hW (by rw [HNs.out]; have := HD1.out; have h : (getS [97] D).n = D.n + 1 := rfl; omega) ⟨#[98]⟩ [98] key_b
              rw [HO8.out.cb] at h
              exact h))
            go_wp2_with (first
              | (go_at_call 31; with_reducible refine CE.out.mono ?_; rintro e wy ⟨rfl, hy, -⟩; have HTy := Lib.hid hy; clear hy CE)
              | (go_at_call 31; with_reducible refine (CF.out _ HTy.out).mono ?_; rintro e wz ⟨rfl, hz, -⟩; have HTz := Lib.hid (hz.less (Y := fun _ => False) (fun k hk => hk.elim)); clear hz))
            go_roundw
            case rel => exact ⟨j + 1, (putAny [97] v0 (getS [97] D)), by omega, by omega, by go_num, HO8, HEn, HTz⟩
            case measure => simp [intOf]; omega
        · have CC := Lib.hid (tpurge noSt_stb HT7.out (by show (getS [97] D).n + 0 ≤ 100000; have := HD1.out; omega))
          generalize purgeN (getS [97] D) = pn at CC
          go_wp2_with fail
          refine CC.out.mono ?_
          rintro e w7 ⟨rfl, h7, -⟩
          have HT8 := Lib.hid (show Tw (SSt s) NoSt w X w7 (purgeS (getS [97] D)) s0 from h7)
          clear h7 CC
          have HO8 := Lib.hid (one_purge HOg.out)
          have HC8 := Lib.hid (show ((purgeS (getS [97] D))).C [97] = N from HNn.out.symm)
          have HEn := Lib.hid (show ((purgeS (getS [97] D))).n ≤ 10 * (j + 1) by show D.n + 2 ≤ _; have := HDr.out; omega)
          have CE := Lib.hid (show Calls Try.prog 31 #[.pointer (some ⟨s, 0, none⟩), .string ⟨#[97]⟩] w7 fun e w' => e = .returned (.int .i64 ((N : Int))) ∧ Tw (SSt s) NoSt w X w' (purgeS (getS [97] D)) s0 ∧ Keep X w7 w' from by
            have h := tversion noSt_stb HT8.out (by show (getS [97] D).n + 1 ≤ 100000; have := HD1.out; omega) ⟨#[97]⟩ [97] key_a
            rw [HC8.out] at h
            exact h)
          have CF := Lib.hid (fun W (hW : Tw (SSt s) NoSt w X W (purgeS (getS [97] D)) s0) => (show Calls Try.prog 31 #[.pointer (some ⟨s, 0, none⟩), .string ⟨#[98]⟩] W fun e w' => e = .returned (.int .i64 0) ∧ Tw (SSt s) NoSt w X w' (purgeS (getS [97] D)) s0 ∧ Keep X W w' from by
            have h := tversion noSt_stb hW (by show (getS [97] D).n + 1 ≤ 100000; have := HD1.out; omega) ⟨#[98]⟩ [98] key_b
            rw [HO8.out.cb] at h
            exact h))
          go_wp2_with (first
            | (go_at_call 31; with_reducible refine CE.out.mono ?_; rintro e wy ⟨rfl, hy, -⟩; have HTy := Lib.hid hy; clear hy CE)
            | (go_at_call 31; with_reducible refine (CF.out _ HTy.out).mono ?_; rintro e wz ⟨rfl, hz, -⟩; have HTz := Lib.hid (hz.less (Y := fun _ => False) (fun k hk => hk.elim)); clear hz))
          go_roundw
          case rel => exact ⟨j + 1, (purgeS (getS [97] D)), by omega, by omega, by go_num, HO8, HEn, HTz⟩
          case measure => simp [intOf]; omega
        · have CC := Lib.hid (tdue noSt_stb HT7.out (by show (getS [97] D).n + 0 ≤ 100000; have := HD1.out; omega) ⟨#[97]⟩ [97] key_a)
          generalize dueV [97] (getS [97] D).L = dv at CC
          go_wp2_with fail
          refine CC.out.mono ?_
          rintro e w7 ⟨rfl, h7, -⟩
          have HT8 := Lib.hid (show Tw (SSt s) NoSt w X w7 (getS [97] (getS [97] D)) s0 from h7)
          clear h7 CC
          have HO8 := Lib.hid (one_get HOg.out)
          have HC8 := Lib.hid (show ((getS [97] (getS [97] D))).C [97] = N from HNn.out.symm)
          have HEn := Lib.hid (show ((getS [97] (getS [97] D))).n ≤ 10 * (j + 1) by show D.n + 2 ≤ _; have := HDr.out; omega)
          have CE := Lib.hid (show Calls Try.prog 31 #[.pointer (some ⟨s, 0, none⟩), .string ⟨#[97]⟩] w7 fun e w' => e = .returned (.int .i64 ((N : Int))) ∧ Tw (SSt s) NoSt w X w' (getS [97] (getS [97] D)) s0 ∧ Keep X w7 w' from by
            have h := tversion noSt_stb HT8.out (by show (getS [97] D).n + 1 ≤ 100000; have := HD1.out; omega) ⟨#[97]⟩ [97] key_a
            rw [HC8.out] at h
            exact h)
          have CF := Lib.hid (fun W (hW : Tw (SSt s) NoSt w X W (getS [97] (getS [97] D)) s0) => (show Calls Try.prog 31 #[.pointer (some ⟨s, 0, none⟩), .string ⟨#[98]⟩] W fun e w' => e = .returned (.int .i64 0) ∧ Tw (SSt s) NoSt w X w' (getS [97] (getS [97] D)) s0 ∧ Keep X W w' from by
            have h := tversion noSt_stb hW (by show (getS [97] D).n + 1 ≤ 100000; have := HD1.out; omega) ⟨#[98]⟩ [98] key_b
            rw [HO8.out.cb] at h
            exact h))
          go_wp2_with (first
            | (go_at_call 31; with_reducible refine CE.out.mono ?_; rintro e wy ⟨rfl, hy, -⟩; have HTy := Lib.hid hy; clear hy CE)
            | (go_at_call 31; with_reducible refine (CF.out _ HTy.out).mono ?_; rintro e wz ⟨rfl, hz, -⟩; have HTz := Lib.hid (hz.less (Y := fun _ => False) (fun k hk => hk.elim)); clear hz))
          go_roundw
          case rel => exact ⟨j + 1, (getS [97] (getS [97] D)), by omega, by omega, by go_num, HO8, HEn, HTz⟩
          case measure => simp [intOf]; omega
        · have CC := Lib.hid (rfit r.v.k r.v.S r.v.ql r.v.nl r.v.cl r.v.qh r.v.nh r.v.ch r.v.qz r.v.nz r.v.cz r.v.d _ (HR.out.v.keep HT7.out.below) HR.out.s)
          go_wp2_with fail
          with_reducible refine CC.out.mono ?_
          rintro e w7 ⟨v, rfl, hv, hb7⟩
          have hr := fit_right r.v.d
          obtain ⟨l1, l2, l3⟩ := fit_len r.v.d
          obtain ⟨p2, rfl, hp2, hpd, hpk, hpb⟩ := pv_of hv (by have := right_kind hr; omega) l1 l2 l3
          have HT8 := Lib.hid ((HT7.out.on (sstb s) noSt_stb hb7).1.on (sstb s) noSt_stb (show Below w7.heap.size w7 (w7.alloc (.cells #[.int .u8 p2.k, .string p2.S, .slice p2.ql p2.nl p2.cl, .slice p2.qh p2.nh p2.ch, .slice p2.qz p2.nz p2.cz] 35)) from (Below.refl _ _).alloc (Nat.le_refl _) _)).1
          have HB7 := Lib.hid (show Below w7.heap.size w7 (w7.alloc (.cells #[.int .u8 p2.k, .string p2.S, .slice p2.ql p2.nl p2.cl, .slice p2.qh p2.nh p2.ch, .slice p2.qz p2.nz p2.cz] 35)) from (Below.refl _ _).alloc (Nat.le_refl _) _)
          have HVp := Lib.hid (VCells.new w7 (.int .u8 p2.k) (.string p2.S) (.slice p2.ql p2.nl p2.cl) (.slice p2.qh p2.nh p2.ch) (.slice p2.qz p2.nz p2.cz) w7.heap.size rfl)
          have HVw := Lib.hid ((HV6.out.keep hb7).keep HB7.out)
          have HI8 := Lib.hid (hp2.same HB7.out.size (fun k h1 => HB7.out.block k (hpb k h1).2))
          have HXp := Lib.hid (show w7.heap.size ≤ w7.heap.size ∧ w7.heap.size < (w7.alloc (.cells #[.int .u8 p2.k, .string p2.S, .slice p2.ql p2.nl p2.cl, .slice p2.qh p2.nh p2.ch, .slice p2.qz p2.nz p2.cz] 35)).heap.size from ⟨Nat.le_refl _, HVp.out.lt⟩)
          have HHb := Lib.hid hpb
          have HRi := Lib.hid (show right p2.d by rw [hpd]; exact hr)
          have HPd := Lib.hid hpd
          have hkz2 := kd_zero hpk
          obtain ⟨dz, hdz⟩ : ∃ b, b = decide ((fitV r.v.d).kind = 0) := ⟨_, rfl⟩
          rw [show decide ((fitV r.v.d).kind ≠ 0) = !dz by rw [hdz]; simp, ← hdz] at hkz2
          obtain ⟨dz1, dz2⟩ := hkz2
          have HDz := Lib.hid hdz
          have HPn := Lib.hid (one_any HOg.out (fitV r.v.d))
          have hnn : (putAny [97] (fitV r.v.d) (getS [97] D)).n = D.n + 2 := by
            unfold putAny goneS
            split
            · split <;> rfl
            · rfl
          have HNs := Lib.hid hnn
          unfold PV.agg
          obtain ⟨-, -, e0, e1, e2, e3, e4⟩ := HVp.out
          obtain ⟨-, -, c0, -, -, -, -⟩ := HVw.out
          have CP := Lib.hid (tput noSt_stb HT8.out (by show (getS [97] D).n + 0 ≤ 100000; have := HD1.out; omega) ⟨#[97]⟩ [97] key_a p2 HI8.out (fun k hk => Or.inl (Or.inr (HHb.out k hk))) HRi.out)
          unfold PV.agg at CP
          clear hv hr l1 l2 l3 hp2 hpd hpk hpb CC hnn hdz o0 o2 o3 o4 o5 o6 o7 o8 hb7
          go_wp2_with fail
          generalize w7.alloc (.cells #[.int .u8 p2.k, .string p2.S, .slice p2.ql p2.nl p2.cl, .slice p2.qh p2.nh p2.ch, .slice p2.qz p2.nz p2.cz] 35) = w8 at HT8 HB7 HVp HVw HI8 HXp e0 e1 e2 e3 e4 c0 CP ⊢
          refine CP.out.mono ?_
          rintro e w9 ⟨rfl, h9, hk9⟩
          have HT9 := Lib.hid ((show Tw (SSt s) NoSt w _ w9 (putAny [97] (fitV r.v.d) (getS [97] D)) s0 by rw [← HPd.out]; exact h9).less (Y := X) (fun k hk => Or.inl (Or.inl hk)))
          have HVq := Lib.hid (keep_cells HVp.out hk9 (Or.inr HXp.out))
          have HVx := Lib.hid (keep_cells HVw.out hk9 (Or.inl (Or.inl HXv.out)))
          have HO8 := Lib.hid HPn.out.1
          have HEn := Lib.hid (show ((putAny [97] (fitV r.v.d) (getS [97] D))).n ≤ 10 * (j + 1) by rw [HNs.out]; have := HDr.out; omega)
          clear h9 CP hk9 c0 e0 e1 e2 e3 e4
          obtain ⟨-, -, c0, -, -, -, -⟩ := HVx.out
          obtain ⟨-, -, e0, -, -, -, -⟩ := HVq.out
          cases dz with
          | false =>
            have HC8 := Lib.hid (show ((putAny [97] (fitV r.v.d) (getS [97] D))).C [97] = N + 1 by have h := HPn.out.2; rw [if_pos (Or.inl (of_decide_eq_false HDz.out.symm))] at h; rw [HNn.out]; exact h)
            have CE := Lib.hid (show Calls Try.prog 31 #[.pointer (some ⟨s, 0, none⟩), .string ⟨#[97]⟩] w9 fun e w' => e = .returned (.int .i64 ((N : Int) + 1)) ∧ Tw (SSt s) NoSt w X w' (putAny [97] (fitV r.v.d) (getS [97] D)) s0 ∧ Keep X w9 w' from by
              have h := tversion noSt_stb HT9.out (by rw [HNs.out]; have := HD1.out; have h : (getS [97] D).n = D.n + 1 := rfl; omega) ⟨#[97]⟩ [97] key_a
              rw [HC8.out] at h
              exact h)
            have CF := Lib.hid (fun W (hW : Tw (SSt s) NoSt w X W (putAny [97] (fitV r.v.d) (getS [97] D)) s0) => (show Calls Try.prog 31 #[.pointer (some ⟨s, 0, none⟩), .string ⟨#[98]⟩] W fun e w' => e = .returned (.int .i64 0) ∧ Tw (SSt s) NoSt w X w' (putAny [97] (fitV r.v.d) (getS [97] D)) s0 ∧ Keep X W w' from by
              have h := tversion noSt_stb hW (by rw [HNs.out]; have := HD1.out; have h : (getS [97] D).n = D.n + 1 := rfl; omega) ⟨#[98]⟩ [98] key_b
              rw [HO8.out.cb] at h
              exact h))
            go_wp2_with (first
              | (go_at_call 31; with_reducible refine CE.out.mono ?_; rintro e wy ⟨rfl, hy, -⟩; have HTy := Lib.hid hy; clear hy CE)
              | (go_at_call 31; with_reducible refine (CF.out _ HTy.out).mono ?_; rintro e wz ⟨rfl, hz, -⟩; have HTz := Lib.hid (hz.less (Y := fun _ => False) (fun k hk => hk.elim)); clear hz))
            go_roundw
            case rel => exact ⟨j + 1, (putAny [97] (fitV r.v.d) (getS [97] D)), by omega, by omega, by go_num, HO8, HEn, HTz⟩
            case measure => simp [intOf]; omega
          | true =>
            cases pz with
            | true =>
              have HC8 := Lib.hid (show ((putAny [97] (fitV r.v.d) (getS [97] D))).C [97] = N by have h := HPn.out.2; rw [if_neg (fun h => h.elim (fun h => h (of_decide_eq_true HDz.out.symm)) (fun h => h (by rw [HWg.out]; exact of_decide_eq_true HPz.out.symm)))] at h; rw [HNn.out]; exact h)
              have CE := Lib.hid (show Calls Try.prog 31 #[.pointer (some ⟨s, 0, none⟩), .string ⟨#[97]⟩] w9 fun e w' => e = .returned (.int .i64 ((N : Int))) ∧ Tw (SSt s) NoSt w X w' (putAny [97] (fitV r.v.d) (getS [97] D)) s0 ∧ Keep X w9 w' from by
                have h := tversion noSt_stb HT9.out (by rw [HNs.out]; have := HD1.out; have h : (getS [97] D).n = D.n + 1 := rfl; omega) ⟨#[97]⟩ [97] key_a
                rw [HC8.out] at h
                exact h)
              have CF := Lib.hid (fun W (hW : Tw (SSt s) NoSt w X W (putAny [97] (fitV r.v.d) (getS [97] D)) s0) => (show Calls Try.prog 31 #[.pointer (some ⟨s, 0, none⟩), .string ⟨#[98]⟩] W fun e w' => e = .returned (.int .i64 0) ∧ Tw (SSt s) NoSt w X w' (putAny [97] (fitV r.v.d) (getS [97] D)) s0 ∧ Keep X W w' from by
                have h := tversion noSt_stb hW (by rw [HNs.out]; have := HD1.out; have h : (getS [97] D).n = D.n + 1 := rfl; omega) ⟨#[98]⟩ [98] key_b
                rw [HO8.out.cb] at h
                exact h))
              go_wp2_with (first
                | (go_at_call 31; with_reducible refine CE.out.mono ?_; rintro e wy ⟨rfl, hy, -⟩; have HTy := Lib.hid hy; clear hy CE)
                | (go_at_call 31; with_reducible refine (CF.out _ HTy.out).mono ?_; rintro e wz ⟨rfl, hz, -⟩; have HTz := Lib.hid (hz.less (Y := fun _ => False) (fun k hk => hk.elim)); clear hz))
              go_roundw
              case rel => exact ⟨j + 1, (putAny [97] (fitV r.v.d) (getS [97] D)), by omega, by omega, by go_num, HO8, HEn, HTz⟩
              case measure => simp [intOf]; omega
            | false =>
              have HC8 := Lib.hid (show ((putAny [97] (fitV r.v.d) (getS [97] D))).C [97] = N + 1 by have h := HPn.out.2; rw [if_pos (Or.inr (by rw [HWg.out]; exact of_decide_eq_false HPz.out.symm))] at h; rw [HNn.out]; exact h)
              have CE := Lib.hid (show Calls Try.prog 31 #[.pointer (some ⟨s, 0, none⟩), .string ⟨#[97]⟩] w9 fun e w' => e = .returned (.int .i64 ((N : Int) + 1)) ∧ Tw (SSt s) NoSt w X w' (putAny [97] (fitV r.v.d) (getS [97] D)) s0 ∧ Keep X w9 w' from by
                have h := tversion noSt_stb HT9.out (by rw [HNs.out]; have := HD1.out; have h : (getS [97] D).n = D.n + 1 := rfl; omega) ⟨#[97]⟩ [97] key_a
                rw [HC8.out] at h
                exact h)
              have CF := Lib.hid (fun W (hW : Tw (SSt s) NoSt w X W (putAny [97] (fitV r.v.d) (getS [97] D)) s0) => (show Calls Try.prog 31 #[.pointer (some ⟨s, 0, none⟩), .string ⟨#[98]⟩] W fun e w' => e = .returned (.int .i64 0) ∧ Tw (SSt s) NoSt w X w' (putAny [97] (fitV r.v.d) (getS [97] D)) s0 ∧ Keep X W w' from by
                have h := tversion noSt_stb hW (by rw [HNs.out]; have := HD1.out; have h : (getS [97] D).n = D.n + 1 := rfl; omega) ⟨#[98]⟩ [98] key_b
                rw [HO8.out.cb] at h
                exact h))
              go_wp2_with (first
                | (go_at_call 31; with_reducible refine CE.out.mono ?_; rintro e wy ⟨rfl, hy, -⟩; have HTy := Lib.hid hy; clear hy CE)
                | (go_at_call 31; with_reducible refine (CF.out _ HTy.out).mono ?_; rintro e wz ⟨rfl, hz, -⟩; have HTz := Lib.hid (hz.less (Y := fun _ => False) (fun k hk => hk.elim)); clear hz))
              go_roundw
              case rel => exact ⟨j + 1, (putAny [97] (fitV r.v.d) (getS [97] D)), by omega, by omega, by go_num, HO8, HEn, HTz⟩
              case measure => simp [intOf]; omega
      · obtain rfl : j = 40 := by omega
        have d1 : decide (((40 : Nat) : Int) < (n : Int)) = true := decide_eq_true (by omega)
        have d1' : (40 : Int) < (n : Int) := by omega
        have HB := Lib.hid HT.out.below
        go_wp2_with fail
        go_ret
        exact ⟨rfl, HB.out⟩
    · have d1 : decide ((j : Int) < (n : Int)) = false := decide_eq_false (by omega)
      have HB := Lib.hid HT.out.below
      go_wp2_with fail
      go_ret
      exact ⟨rfl, HB.out⟩

end Go.Proofs.Ytbcjgkedlapmhaa.storeVersions
