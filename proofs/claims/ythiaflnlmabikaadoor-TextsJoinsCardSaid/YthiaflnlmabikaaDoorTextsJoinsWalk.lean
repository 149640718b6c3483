/-
  TextsJoins: texts that are appended, one by one, are got as one; however they are told apart; and each tells how long it is then.
-/
import Derived.Test.YthiaflnlmabikaaDoorTxtLaw
import Derived.Test.YthiaflnlmabikaaDoorRefInt
import Derived.Deep.QuietTactic
import Derived.Deep.DeepCutAuto
import Derived.BigQuiet
import Derived.StillTailTactics
namespace Go.Proofs.YthiaflnlmabikaaDoor.textsJoins
open Go.RowKit Kit StrT RowG BOrd ValT StoT ReplyT ReplyMath ValM BytesIn DoT Low MapT LstT TxtT NumL NumW NumMath ReplyM TxtM SaidT RefR TxtL
set_option linter.unusedVariables false
set_option maxRecDepth 100000
-- ASKS: NumL.Gd


/-- What there is behind some appends. -/
def dAt (j : Nat) (x : List UInt8) : V := if j = 0 then v0 else textV x
theorem dAt_kind (j : Nat) (x : List UInt8) : (dAt j x).kind = 0 ∨ (dAt j x).kind = 1 := by unfold dAt; split; exact Or.inl rfl; exact Or.inr rfl
theorem dAt_s {j : Nat} {x : List UInt8} (h : j = 0 → x = []) : (dAt j x).s = x := by
  unfold dAt
  split
  · rw [h (by assumption)]; rfl
  · rfl
theorem dAt_succ (j : Nat) (x : List UInt8) : dAt (j + 1) x = textV x := if_neg (by omega)
theorem no_rows {w : World} {p : PV} {j : Nat} {x : List UInt8} (hd : p.d = dAt j x) : ∀ k, ¬ p.at_ k := by
  intro k hk
  have hl : p.d.l = [] ∧ p.d.h = [] ∧ p.d.z = [] := by rw [hd]; unfold dAt; split <;> exact ⟨rfl, rfl, rfl⟩
  rcases hk with ⟨h0, -⟩ | ⟨h0, -⟩ | ⟨h0, -⟩
  · rw [hl.1] at h0; simp at h0
  · rw [hl.2.1] at h0; simp at h0
  · rw [hl.2.2] at h0; simp at h0
theorem cut20 {T V : ByteArray} (h : V = if T.size ≤ 20 then T else T.extract 0 20) : V.size ≤ 20 := by
  subst h
  split
  · assumption
  · rw [ByteArray.size_extract]; omega
/-- The answer laid over what there was. -/
theorem VB.over {w : World} {g : Nat} {p q : PV} {j : Nat} {x : List UInt8} (h : VB w g p) (hq : q.In w) (hd : q.d = dAt j x) : VB (w.setRow g #[.int .u8 q.k, .string q.S, .slice q.ql q.nl q.cl, .slice q.qh q.nh q.ch, .slice q.qz q.nz q.cz]) g q :=
  ⟨setRow_heap w g _ _ _ _ h.hp, hq.same (by simp) (fun k hk => absurd hk (no_rows (w := w) hd k))⟩

set_option maxHeartbeats 8000000 in
theorem walk (q : Option Addr) (L : List (List UInt8)) (n c : Nat) (w : World) (hL : L.length = n) (h : StrT.Ss w q L) (hz : ∀ s ∈ L, s.length ≤ 140737488351232) (hcap : n ≤ c) (hcm : c ≤ 9223372036854775807) (hnil : q = none → c = 0) (hg : Gd w) :
    Calls Tryd.prog 6 #[.slice q n c] w fun e w' => e = .returned (.bool true) ∧ Below w.heap.size w w' := by
  have HG := Lib.hid (fun W (h : Below w.heap.size w W) => hg.keep h)
  have C0 := Lib.hid (shown_any w hg)
  have HS := Lib.hid h
  have HN := Lib.hid hL
  have HZ := Lib.hid hz
  clear h hz hg hnil
  go_enter Tryd.func6, Tryd.ntmps6
  go_wp2_with fail
  with_reducible refine C0.out.mono ?_
  rintro e w1 ⟨rfl, hb1⟩
  have HB1 := Lib.hid hb1
  have HBg := Lib.hid (hb1.alloc hb1.size (.cells #[.int .u8 0, .string ⟨#[]⟩, .slice none 0 0, .slice none 0 0, .slice none 0 0] 26))
  have HV1 := Lib.hid (VB.new (pv0_in w1))
  dsimp only [pv0] at HV1
  clear hb1 C0
  go_wp2_with fail
  generalize hg4 : w1.heap.size = g4 at HV1 ⊢
  have HG4 := Lib.hid (show w.heap.size ≤ g4 by rw [← hg4]; exact HB1.out.size)
  clear hg4
  generalize w1.alloc (.cells #[.int .u8 0, .string ⟨#[]⟩, .slice none 0 0, .slice none 0 0, .slice none 0 0] 26) = w2 at HBg HV1 ⊢
  clear HB1
  go_loopw [5, 6] (fun s i wr => ∃ (j : Nat) (p : PV) (X : ByteArray), j ≤ n ∧ j ≤ 10 ∧ i = .int .i64 j ∧ s = .string X ∧ Hid (p.d = dAt j X.data.toList ∧ (j = 0 → X.data.toList = []) ∧ X.size ≤ 20 * j) ∧ Hid (VB wr g4 p) ∧ Hid (Below w.heap.size w wr)) (fun _ i _ => 10 - (intOf i).toNat)
  case atStart => exact ⟨0, pv0, ⟨#[]⟩, Nat.zero_le _, Nat.zero_le _, rfl, rfl, Lib.hid ⟨rfl, fun _ => rfl, by decide⟩, HV1, HBg⟩
  case round =>
    clear HV1 HBg
    obtain ⟨j, p, X, hj, hj10, rfl, rfl, HX, HV, HB⟩ := hrel
    obtain ⟨k0, S0, ql0, nl0, cl0, qh0, nh0, ch0, qz0, nz0, cz0, d0⟩ := p
    have hXs : X.size ≤ 200 := by have := HX.out.2.2; omega
    by_cases hgo : j < n ∧ j < 10
    · obtain ⟨hlt, hl10⟩ := hgo
      have t1 : decide ((j : Int) < (n : Int)) = true := decide_eq_true (by omega)
      have t2 : decide ((j : Int) < 10) = true := decide_eq_true (by omega)
      have hj0 : (0 : Int) ≤ (j : Int) := by omega
      have hjn : (j : Int) < (n : Int) := by omega
      have hjL : j < L.length := by rw [HN.out]; exact hlt
      obtain ⟨b, off, rfl, hbl, hc⟩ := (HS.out.keep HB.out) (by omega)
      have hu := hc j hjL
      obtain ⟨T, hT⟩ : ∃ T : ByteArray, T = ⟨L[j].toArray⟩ := ⟨_, rfl⟩
      have hTz : T.size ≤ 140737488351232 := by rw [hT, size_bytes]; exact HZ.out L[j] (List.getElem_mem hjL)
      rw [← hT] at hu
      obtain ⟨V, hV⟩ : ∃ V : ByteArray, V = if T.size ≤ 20 then T else T.extract 0 20 := ⟨_, rfl⟩
      have hV20 := cut20 hV
      obtain ⟨m, hm⟩ : ∃ m : Nat, m = min T.size 20 := ⟨_, rfl⟩
      have hmin : min (T.size : Int) 20 = (m : Int) := by omega
      have s1 : ∀ W, (Instr.slice 9 (.string T) none (some (.int .i64 (m : Int))) none).run Tryd.prog W = .ok (.string V) W := fun W => by
        have h := run_slice_string_h (P := Tryd.prog) W 9 T Tryd.underlying9 .i64 (m : Int) (by omega) (by omega)
        rw [h, hV]
        split
        · rw [show ((m : Nat) : Int).toNat = T.size by omega, ByteArray.extract_zero_size]
        · rw [show ((m : Nat) : Int).toNat = 20 by omega]
      clear hT hV hm hc
      obtain ⟨Y, hY⟩ : ∃ Y, Y = X ++ V := ⟨_, rfl⟩
      have ad := add_str X V (by omega)
      rw [← hY] at ad
      have HY := Lib.hid (show Y.data.toList = X.data.toList ++ V.data.toList by rw [hY]; simp)
      have hYs : Y.size ≤ 220 := by rw [hY, ByteArray.size_append]; omega
      have HYn := Lib.hid (show Y.size ≤ 20 * (j + 1) by have := HX.out.2.2; rw [hY, ByteArray.size_append]; omega)
      have HYl := Lib.hid (show Y.size = X.data.toList.length + V.data.toList.length by rw [hY, ByteArray.size_append, str_len, str_len])
      clear hY
      have HS0 := Lib.hid (show S0.size ≤ 1048576 by
        have e := VIn.es HV.out.pv
        have e2 : d0.s = X.data.toList := by rw [show d0 = dAt j X.data.toList from HX.out.1]; exact dAt_s HX.out.2.1
        rw [← str_len, show S0.data.toList = d0.s from e, e2, str_len]; omega)
      have C1 := Lib.hid (fun (W : World) (g : Nat) (hgw : g = W.heap.size) (hW : Below w.heap.size w W) (hpv : PV.In W (⟨k0, S0, ql0, nl0, cl0, qh0, nh0, ch0, qz0, nz0, cz0, d0⟩)) => (show Calls Tryd.prog 12 #[.agg #[.int .u8 k0, .string S0, .slice ql0 nl0 cl0, .slice qh0 nh0 ch0, .slice qz0 nz0 cz0], .slice (some ⟨g, 0, none⟩) 3 3] (W.alloc (.cells #[.string ⟨#[65, 112, 112, 101, 110, 100]⟩, .string ⟨#[107]⟩, .string V] 9)) (DoW (textV Y.data.toList) (int (Y.size : Int)) W) from by subst hgw; exact dow_to (by rw [doD_app _ _ X.data.toList V.data.toList X.data.toList (by show d0.kind = 0 ∨ d0.kind = 1; rw [show d0 = dAt j X.data.toList from HX.out.1]; exact dAt_kind _ _) (by show d0.s = _; rw [show d0 = dAt j X.data.toList from HX.out.1]; exact dAt_s HX.out.2.1), HY.out, HYl.out]) (call3 2 ⟨#[65, 112, 112, 101, 110, 100]⟩ ⟨#[107]⟩ V (by decide) (by decide) ⟨by decide, by decide⟩ (by omega) (⟨k0, S0, ql0, nl0, cl0, qh0, nh0, ch0, qz0, nz0, cz0, d0⟩) W hpv HS0.out (HG.out W hW))))
      obtain ⟨-, -, a0, a1, a2, a3, a4⟩ := HV.out.room
      dsimp only at a0 a1 a2 a3 a4
      go_wp2_with fail
      go_quiet (fail)
      have HVq := Lib.hid (HV.out.keep (below_drewN (Below.refl _ _) nq))
      have HBq := Lib.hid (below_drewN HB.out nq)
      clear hu a0 a1 a2 a3 a4 HV HB
      generalize wr.drewN nq = w3 at HVq HBq ⊢
      obtain ⟨-, -, a0, a1, a2, a3, a4⟩ := HVq.out.room
      dsimp only at a0 a1 a2 a3 a4
      go_wp2_with fail
      with_reducible refine (C1.out w3 _ rfl HBq.out HVq.out.pv).mono ?_
      rintro e w4 ⟨p1, vr1, rfl, hI, hd, hs, hA, hb⟩
      obtain ⟨k1, S1, ql1, nl1, cl1, qh1, nh1, ch1, qz1, nz1, cz1, d1⟩ := p1
      dsimp only [PV.agg]
      obtain ⟨NR, HNR⟩ : ∃ NR, Hid ((int (Y.size : Int)).length = NR) := ⟨_, Lib.hid rfl⟩
      obtain ⟨XR, HXR⟩ : ∃ XR : ByteArray, Hid (XR.data.toList = int (Y.size : Int)) := ⟨⟨(int (Y.size : Int)).toArray⟩, Lib.hid rfl⟩
      obtain ⟨q1, c1, rfl, hv1⟩ := ans_text hA NR HNR.out XR HXR.out
      obtain rfl : S1 = Y := text_eq hs rfl
      have HI1 := Lib.hid hI
      have HD1 := Lib.hid hd
      have HV4 := Lib.hid (HVq.out.keep hb)
      have HB4 := Lib.hid (HBq.out.trans (hb.mono HBq.out.size))
      have hb5 := Kit.below1 w4 (.cells #[.int .u8 k1, .string S1, .slice ql1 nl1 cl1, .slice qh1 nh1 ch1, .slice qz1 nz1 cz1] 26)
      have HV5 := Lib.hid (HV4.out.keep hb5)
      have HG5 := Lib.hid (show g4 ≠ w4.heap.size from Nat.ne_of_lt HV4.out.lt)
      have HN5 := Lib.hid (VB.new HI1.out)
      dsimp only at HN5
      have HB5 := Lib.hid (HB4.out.trans (hb5.mono HB4.out.size))
      have hv5 : ∀ W, Below (w4.alloc (.cells #[.int .u8 k1, .string S1, .slice ql1 nl1 cl1, .slice qh1 nh1 ch1, .slice qz1 nz1 cz1] 26)).heap.size (w4.alloc (.cells #[.int .u8 k1, .string S1, .slice ql1 nl1 cl1, .slice qh1 nh1 ch1, .slice qz1 nz1 cz1] 26)) W → _ := fun W hW => hv1 W (hb5.trans (hW.mono hb5.size))
      clear hI hd hs hA hb hb5 hv1 HV4 HVq HBq a0 a1 a2 a3 a4 C1
      go_upto_region 10 with fail
      generalize hg5 : w4.heap.size = g5 at HN5 HG5 ⊢
      generalize w4.alloc (.cells #[.int .u8 k1, .string S1, .slice ql1 nl1 cl1, .slice qh1 nh1 ch1, .slice qz1 nz1 cz1] 26) = w5 at HV5 HN5 HB5 hv5 ⊢
      go_cut [53] (fun v wx => v = .bool false ∧ Hid (Below w5.heap.size w5 wx))
      case first =>
        have A1 := Lib.hid (fun W (h : Below w5.heap.size w5 W) => (show Calls Tryd.prog 15 #[.int .i64 (S1.size : Int)] W (Said w5 W NR XR) from (rint (S1.size : Int) W (by omega) (by omega)).mono (fun e w' hh => said_of hh h NR HNR.out XR HXR.out)))
        refine wp_region_held_drew (S := fun W => Below w5.heap.size w5 W ∧ Below w5.heap.size w5 W) (by kernel_rfl) ?_ (fun hHeld => ?_)
        · exact ⟨(Below.refl _ _).drew, (Below.refl _ _).drew⟩
        refine wpAnyH_take (i := 0) (v := ?_) rfl (by kernel_rfl) (by kernel_rfl) (by kernel_rfl) (fun _ _ _ h => h) (Or.inl ⟨by rfl, ?_⟩) (by assumption) ?_
        rotate_left
        · intro W0 hSw; obtain ⟨hSa, hSb⟩ := hSw; go_simp; all_goals (with_reducible rfl)
        try simp only [Act.put, List.getElem_toArray, List.getElem_cons_zero, List.setIfInBounds_toArray, List.set_cons_zero, List.set_cons_succ]
        refine wpAnyH_take (i := 1) (v := ?_) rfl (by kernel_rfl) (by kernel_rfl) (by kernel_rfl) (fun _ _ _ h => h) (Or.inl ⟨by rfl, ?_⟩) (by assumption) ?_
        rotate_left
        · intro W0 hSw; obtain ⟨hSa, hSb⟩ := hSw; go_simp; all_goals (with_reducible rfl)
        try simp only [Act.put, List.getElem_toArray, List.getElem_cons_succ, List.getElem_cons_zero, List.setIfInBounds_toArray, List.set_cons_zero, List.set_cons_succ]
        refine wpAnyH_take (i := 2) (v := ?_) rfl (by kernel_rfl) (by kernel_rfl) (by kernel_rfl) (fun _ _ _ h => h) (Or.inl ⟨by rfl, ?_⟩) (by assumption) ?_
        rotate_left
        · intro W0 hSw; obtain ⟨hSa, hSb⟩ := hSw; go_simp; all_goals (with_reducible rfl)
        try simp only [Act.put, List.getElem_toArray, List.getElem_cons_succ, List.getElem_cons_zero, List.setIfInBounds_toArray, List.set_cons_zero, List.set_cons_succ]
        refine wpAnyH_take (i := 3) (v := ?_) rfl (by kernel_rfl) (by kernel_rfl) (by kernel_rfl) (fun _ _ _ h => h) (Or.inl ⟨by rfl, ?_⟩) (by assumption) ?_
        rotate_left
        · intro W0 hSw; obtain ⟨hSa, hSb⟩ := hSw; go_simp; all_goals (with_reducible rfl)
        try simp only [Act.put, List.getElem_toArray, List.getElem_cons_succ, List.getElem_cons_zero, List.setIfInBounds_toArray, List.set_cons_zero, List.set_cons_succ]
        refine wpAnyH_ready (rs := [4]) (by kernel_rfl) (by simp) ?_
        refine AllReadyH.cons rfl (fun K hK => ?_) AllReadyH.nil
        go_simp
        go_wp2_with (go_at_call 15; (refine (A1.out _ hHeld.1).mono ?_); rintro e wA0 ⟨pwA0, cwA0, rfl, vwA0, bwA0, ywA0, zwA0⟩)
        have hC := hHeld.2.trans (ywA0.mono hHeld.2.size)
        refine hK.out _ _ ?_ (fun hHeld2 => ?_)
        · exact ⟨bwA0, hC⟩
        clear hK K hHeld hHeld2
        have hHeld : Below w5.heap.size w5 wA0 ∧ Below wA0.heap.size wA0 wA0 := ⟨bwA0, zwA0⟩
        refine held_mono (S' := fun W => Below w5.heap.size w5 W ∧ Below wA0.heap.size wA0 W) (fun W hW => ⟨hW.1, hC.trans (hW.2.mono hC.size)⟩) _ _ _ _ ?_
        clear hC
        refine wpAnyH_take (i := 5) (v := ?_) rfl (by kernel_rfl) (by kernel_rfl) (by kernel_rfl) (fun _ _ _ h => h) (Or.inl ⟨by rfl, ?_⟩) (by assumption) ?_
        rotate_left
        · intro W0 hSw; obtain ⟨hSa, hSb⟩ := hSw; go_simp; all_goals (with_reducible rfl)
        try simp only [Act.put, List.getElem_toArray, List.getElem_cons_succ, List.getElem_cons_zero, List.setIfInBounds_toArray, List.set_cons_zero, List.set_cons_succ]
        refine wpAnyH_take (i := 6) (v := ?_) rfl (by kernel_rfl) (by kernel_rfl) (by kernel_rfl) (fun _ _ _ h => h) (Or.inl ⟨by rfl, ?_⟩) (by assumption) ?_
        rotate_left
        · intro W0 hSw; obtain ⟨hSa, hSb⟩ := hSw; go_simp; all_goals (with_reducible rfl)
        try simp only [Act.put, List.getElem_toArray, List.getElem_cons_succ, List.getElem_cons_zero, List.setIfInBounds_toArray, List.set_cons_zero, List.set_cons_succ]
        refine wpAnyH_done (by kernel_rfl) ?_ _
        go_wp2_with fail
        go_meet
        exact ⟨rfl, Lib.hid hHeld.1⟩
      case rest =>
      obtain ⟨rfl, HBx⟩ := hcut
      rename World => wx
      have HV6 := Lib.hid (HV5.out.keep HBx.out)
      have HN6 := Lib.hid (HN5.out.keep HBx.out)
      have HB6 := Lib.hid (HB5.out.trans (HBx.out.mono HB5.out.size))
      have HI6 := Lib.hid HN6.out.pv
      obtain ⟨-, -, b0, b1, b2, b3, b4⟩ := HN6.out.room
      have HVo := Lib.hid (VB.over (j := j + 1) (x := S1.data.toList) HV6.out HI6.out (by rw [dAt_succ]; exact HD1.out))
      dsimp only at b0 b1 b2 b3 b4 HVo
      have HBo := Lib.hid (below_setRow HB6.out HG4.out #[.int .u8 k1, .string S1, .slice ql1 nl1 cl1, .slice qh1 nh1 ch1, .slice qz1 nz1 cz1])
      have HCs1 := Lib.hid (show (Tryd.prog.info? 26).map (·.size) = some (#[.int .u8 k1, .string S1, .slice ql1 nl1 cl1, .slice qh1 nh1 ch1, .slice qz1 nz1 cz1] : Array Value).size from val_size)
      have HOn1 := Lib.hid (show (#[.int .u8 k1, .string S1, .slice ql1 nl1 cl1, .slice qh1 nh1 ch1, .slice qz1 nz1 cz1] : Array Value).all (·.oneCell') = true by simp [Value.oneCell'])
      clear HNR HXR HV5 HN5 HBx HB5 HG5 hv5
      go_wp2_with (with_reducible refine wpList_store_row rfl 26 (.tmp 4) (.tmp 54) rfl g4 #[.int .u8 k1, .string S1, .slice ql1 nl1 cl1, .slice qh1 nh1 ch1, .slice qz1 nz1 cz1] rfl rfl 26 _ HV6.out.hp HCs1.out rfl HOn1.out ?_)
      go_roundw
      case rel => exact ⟨j + 1, ⟨k1, S1, ql1, nl1, cl1, qh1, nh1, ch1, qz1, nz1, cz1, d1⟩, S1, by omega, by omega, by go_num, rfl, Lib.hid ⟨by rw [dAt_succ]; exact HD1.out, fun h => absurd h (by omega), HYn.out⟩, HVo, HBo⟩
      case measure => simp [intOf]; omega
    · have tst : n ≤ j ∨ (j < n ∧ 10 ≤ j) := by omega
      have tt : (decide ((j : Int) < (n : Int)) = false ∧ ¬ (j : Int) < (n : Int) ∧ decide (j < n) = false) ∨ (decide ((j : Int) < (n : Int)) = true ∧ (j : Int) < (n : Int) ∧ decide (j < n) = true) ∧ decide ((j : Int) < 10) = false ∧ ¬ (j : Int) < 10 := by
        rcases tst with h | ⟨h1, h2⟩
        · exact Or.inl ⟨decide_eq_false (by omega), by omega, decide_eq_false (by omega)⟩
        · exact Or.inr ⟨⟨decide_eq_true (by omega), by omega, decide_eq_true (by omega)⟩, decide_eq_false (by omega), by omega⟩
      have HJ := Lib.hid (show n = 0 ∧ ((n : Int) == 0) = true ∨ 0 < n ∧ ((n : Int) == 0) = false ∧ j ≠ 0 by
        rcases Nat.eq_zero_or_pos n with h | h
        · exact Or.inl ⟨h, by rw [beq_iff_eq]; omega⟩
        · exact Or.inr ⟨h, by rw [beq_eq_false_iff_ne]; omega, by omega⟩)
      have C2 := Lib.hid (fun (W : World) (g : Nat) (hgw : g = W.heap.size) (hW : Below w.heap.size w W) (hpv : PV.In W (pv0)) => (show Calls Tryd.prog 12 #[.agg #[.int .u8 0, .string ⟨#[]⟩, .slice none 0 0, .slice none 0 0, .slice none 0 0], .slice (some ⟨g, 0, none⟩) 3 3] (W.alloc (.cells #[.string ⟨#[97, 112, 112, 101, 110, 100]⟩, .string ⟨#[107]⟩, .string X] 9)) (DoW (textV X.data.toList) (int (X.data.toList.length : Int)) W) from by subst hgw; exact dow_to (doD_new _ _ _) (call3 2 ⟨#[97, 112, 112, 101, 110, 100]⟩ ⟨#[107]⟩ X (by decide) (by decide) ⟨by decide, by decide⟩ (by omega) (pv0) W hpv (by decide) (HG.out W hW))))
      have C3 := Lib.hid (fun k1 S1 ql1 nl1 cl1 qh1 nh1 ch1 qz1 nz1 cz1 d1 (hd1 : d1 = textV X.data.toList) (hS1 : S1.size ≤ 1048576) => (fun (W : World) (g : Nat) (hgw : g = W.heap.size) (hW : Below w.heap.size w W) (hpv : PV.In W (⟨k1, S1, ql1, nl1, cl1, qh1, nh1, ch1, qz1, nz1, cz1, d1⟩)) => (show Calls Tryd.prog 12 #[.agg #[.int .u8 k1, .string S1, .slice ql1 nl1 cl1, .slice qh1 nh1 ch1, .slice qz1 nz1 cz1], .slice (some ⟨g, 0, none⟩) 2 2] (W.alloc (.cells #[.string ⟨#[103, 101, 116]⟩, .string ⟨#[107]⟩] 9)) (DoW (textV X.data.toList) (bulk X.data.toList) W) from by subst hgw; exact dow_to (by rw [show PV.d ⟨k1, S1, ql1, nl1, cl1, qh1, nh1, ch1, qz1, nz1, cz1, d1⟩ = textV X.data.toList from hd1]; exact doD_get _ (Or.inr rfl)) (call2 0 ⟨#[103, 101, 116]⟩ ⟨#[107]⟩ (by decide) (by decide) (by decide) ⟨by decide, by decide⟩ (⟨k1, S1, ql1, nl1, cl1, qh1, nh1, ch1, qz1, nz1, cz1, d1⟩) W hpv hS1 (HG.out W hW)))))
      clear hgo tst
      rcases tt with ⟨t1, t1a, t1b⟩ | ⟨⟨t1, t1a, t1b⟩, t2, t2a⟩
      all_goals
        go_wp2_with fail
        with_reducible refine (C2.out wr _ rfl HB.out (pv0_in _)).mono ?_
        rintro e w4 ⟨p1, vr1, rfl, hI, hd, hs, hA, hb⟩
        obtain ⟨k1, S1, ql1, nl1, cl1, qh1, nh1, ch1, qz1, nz1, cz1, d1⟩ := p1
        dsimp only [PV.agg]
        obtain rfl : S1 = X := text_eq hs rfl
        have HV4 := Lib.hid (HV.out.keep hb)
        have HB4 := Lib.hid (HB.out.trans (hb.mono HB.out.size))
        have hb5 := Kit.below1 w4 (.cells #[.int .u8 k1, .string S1, .slice ql1 nl1 cl1, .slice qh1 nh1 ch1, .slice qz1 nz1 cz1] 26)
        have HV5 := Lib.hid (HV4.out.keep hb5)
        have HN5 := Lib.hid (VB.new hI)
        dsimp only at HN5
        have HB5 := Lib.hid (HB4.out.trans (hb5.mono HB4.out.size))
        have HSz5 := Lib.hid (show w4.heap.size + 1 = (w4.alloc (.cells #[.int .u8 k1, .string S1, .slice ql1 nl1 cl1, .slice qh1 nh1 ch1, .slice qz1 nz1 cz1] 26)).heap.size by simp)
        have HD1 := Lib.hid (show d1 = _ from hd)
        clear hI hd hs hA hb hb5 HV4 HB4
        go_wp2_with fail
        generalize hg5 : w4.heap.size = g5 at HN5 HSz5 ⊢
        generalize w4.alloc (.cells #[.int .u8 k1, .string S1, .slice ql1 nl1 cl1, .slice qh1 nh1 ch1, .slice qz1 nz1 cz1] 26) = w5 at HV5 HN5 HB5 HSz5 ⊢
        with_reducible refine (C3.out k1 S1 ql1 nl1 cl1 qh1 nh1 ch1 qz1 nz1 cz1 d1 HD1.out (by omega) w5 _ HSz5.out HB5.out HN5.out.pv).mono ?_
        rintro e w6 ⟨p2, vr2, rfl, hI, hd, hs, hA, hb⟩
        obtain ⟨k2, S2, ql2, nl2, cl2, qh2, nh2, ch2, qz2, nz2, cz2, d2⟩ := p2
        dsimp only [PV.agg]
        obtain ⟨NR, HNR⟩ : ∃ NR, Hid ((bulk S1.data.toList).length = NR) := ⟨_, Lib.hid rfl⟩
        obtain ⟨XR, HXR⟩ : ∃ XR : ByteArray, Hid (XR.data.toList = bulk S1.data.toList) := ⟨⟨(bulk S1.data.toList).toArray⟩, Lib.hid rfl⟩
        obtain ⟨q2, c2, rfl, hv2⟩ := ans_text hA NR HNR.out XR HXR.out
        have HV6 := Lib.hid (HV5.out.keep hb)
        have HN6 := Lib.hid (HN5.out.keep hb)
        have HB6 := Lib.hid (HB5.out.trans (hb.mono HB5.out.size))
        have hb7 := Kit.below1 w6 (.cells #[.int .u8 k2, .string S2, .slice ql2 nl2 cl2, .slice qh2 nh2 ch2, .slice qz2 nz2 cz2] 26)
        have HV7 := Lib.hid (HV6.out.keep hb7)
        have HN7 := Lib.hid (HN6.out.keep hb7)
        have HB7 := Lib.hid (HB6.out.trans (hb7.mono HB6.out.size))
        have hv7 : ∀ W, Below (w6.alloc (.cells #[.int .u8 k2, .string S2, .slice ql2 nl2 cl2, .slice qh2 nh2 ch2, .slice qz2 nz2 cz2] 26)).heap.size (w6.alloc (.cells #[.int .u8 k2, .string S2, .slice ql2 nl2 cl2, .slice qh2 nh2 ch2, .slice qz2 nz2 cz2] 26)) W → _ := fun W hW => hv2 W (hb7.trans (hW.mono hb7.size))
        clear hI hd hs hA hb hb7 hv2 HV5 HN5 HB5 HV6 HN6 HB6 HSz5 C2 C3
        go_upto_region 15 with fail
        generalize w6.alloc (.cells #[.int .u8 k2, .string S2, .slice ql2 nl2 cl2, .slice qh2 nh2 ch2, .slice qz2 nz2 cz2] 26) = w7 at HV7 HN7 HB7 hv7 ⊢
        have hl3 : ∀ W, Below w7.heap.size w7 W → W.cell? ⟨g5, 1, none⟩ = some (.string S1) := fun W hW => (HN7.out.keep hW).room.c1
        have A1 := Lib.hid (fun W (h : Below w7.heap.size w7 W) => (show Calls Tryd.prog 14 #[.string S1] W (Said w7 W NR XR) from (rbulk S1 W (by omega)).mono (fun e w' hh => said_of hh h NR HNR.out XR HXR.out)))
        rcases HJ.out with ⟨hn0, e0⟩ | ⟨hn0, e0, hjz⟩
        · clear HX HV HB
          refine wp_region_held_drew (S := fun W => Below w7.heap.size w7 W ∧ Below w7.heap.size w7 W) (by kernel_rfl) ?_ (fun hHeld => ?_)
          · exact ⟨(Below.refl _ _).drew, (Below.refl _ _).drew⟩
          refine wpAnyH_take (i := 0) (v := ?_) rfl (by kernel_rfl) (by kernel_rfl) (by kernel_rfl) (fun _ _ _ h => h) (Or.inl ⟨by rfl, ?_⟩) (by assumption) ?_
          rotate_left
          · intro W0 hSw; obtain ⟨hSa, hSb⟩ := hSw; go_simp; all_goals (with_reducible rfl)
          try simp only [Act.put, List.getElem_toArray, List.getElem_cons_zero, List.setIfInBounds_toArray, List.set_cons_zero, List.set_cons_succ]
          refine wpAnyH_take (i := 1) (v := ?_) rfl (by kernel_rfl) (by kernel_rfl) (by kernel_rfl) (fun _ _ _ h => h) (Or.inl ⟨by rfl, ?_⟩) (by assumption) ?_
          rotate_left
          · intro W0 hSw; obtain ⟨hSa, hSb⟩ := hSw; go_simp; all_goals (with_reducible rfl)
          try simp only [Act.put, List.getElem_toArray, List.getElem_cons_succ, List.getElem_cons_zero, List.setIfInBounds_toArray, List.set_cons_zero, List.set_cons_succ]
          refine wpAnyH_take (i := 2) (v := ?_) rfl (by kernel_rfl) (by kernel_rfl) (by kernel_rfl) (fun _ _ _ h => h) (Or.inl ⟨by rfl, ?_⟩) (by assumption) ?_
          rotate_left
          · intro W0 hSw; obtain ⟨hSa, hSb⟩ := hSw; go_simp; all_goals (with_reducible rfl)
          try simp only [Act.put, List.getElem_toArray, List.getElem_cons_succ, List.getElem_cons_zero, List.setIfInBounds_toArray, List.set_cons_zero, List.set_cons_succ]
          refine wpAnyH_take (i := 3) (v := ?_) rfl (by kernel_rfl) (by kernel_rfl) (by kernel_rfl) (fun _ _ _ h => h) (Or.inl ⟨by rfl, ?_⟩) (by assumption) ?_
          rotate_left
          · intro W0 hSw; obtain ⟨hSa, hSb⟩ := hSw; go_simp; all_goals (with_reducible rfl)
          try simp only [Act.put, List.getElem_toArray, List.getElem_cons_succ, List.getElem_cons_zero, List.setIfInBounds_toArray, List.set_cons_zero, List.set_cons_succ]
          refine wpAnyH_take (i := 4) (v := ?_) rfl (by kernel_rfl) (by kernel_rfl) (by kernel_rfl) (fun _ _ _ h => h) (Or.inl ⟨by rfl, ?_⟩) (by assumption) ?_
          rotate_left
          · intro W0 hSw; obtain ⟨hSa, hSb⟩ := hSw; go_simp; all_goals (with_reducible rfl)
          try simp only [Act.put, List.getElem_toArray, List.getElem_cons_succ, List.getElem_cons_zero, List.setIfInBounds_toArray, List.set_cons_zero, List.set_cons_succ]
          refine wpAnyH_take (i := 5) (v := ?_) rfl (by kernel_rfl) (by kernel_rfl) (by kernel_rfl) (fun _ _ _ h => h) (Or.inl ⟨by rfl, ?_⟩) (by assumption) ?_
          rotate_left
          · intro W0 hSw; obtain ⟨hSa, hSb⟩ := hSw; go_simp; all_goals (with_reducible rfl)
          try simp only [Act.put, List.getElem_toArray, List.getElem_cons_succ, List.getElem_cons_zero, List.setIfInBounds_toArray, List.set_cons_zero, List.set_cons_succ]
          refine wpAnyH_take (i := 6) (v := undef) rfl (by kernel_rfl) (by kernel_rfl) (by kernel_rfl) (fun _ _ _ h => h) (Or.inr ⟨by rfl, rfl⟩) (by assumption) ?_
          try simp only [Act.put, List.getElem_toArray, List.getElem_cons_succ, List.getElem_cons_zero, List.setIfInBounds_toArray, List.set_cons_zero, List.set_cons_succ]
          refine wpAnyH_take (i := 7) (v := undef) rfl (by kernel_rfl) (by kernel_rfl) (by kernel_rfl) (fun _ _ _ h => h) (Or.inr ⟨by rfl, rfl⟩) (by assumption) ?_
          try simp only [Act.put, List.getElem_toArray, List.getElem_cons_succ, List.getElem_cons_zero, List.setIfInBounds_toArray, List.set_cons_zero, List.set_cons_succ]
          refine wpAnyH_take (i := 8) (v := undef) rfl (by kernel_rfl) (by kernel_rfl) (by kernel_rfl) (fun _ _ _ h => h) (Or.inr ⟨by rfl, rfl⟩) (by assumption) ?_
          try simp only [Act.put, List.getElem_toArray, List.getElem_cons_succ, List.getElem_cons_zero, List.setIfInBounds_toArray, List.set_cons_zero, List.set_cons_succ]
          refine wpAnyH_take (i := 9) (v := undef) rfl (by kernel_rfl) (by kernel_rfl) (by kernel_rfl) (fun _ _ _ h => h) (Or.inr ⟨by rfl, rfl⟩) (by assumption) ?_
          try simp only [Act.put, List.getElem_toArray, List.getElem_cons_succ, List.getElem_cons_zero, List.setIfInBounds_toArray, List.set_cons_zero, List.set_cons_succ]
          refine wpAnyH_take (i := 10) (v := undef) rfl (by kernel_rfl) (by kernel_rfl) (by kernel_rfl) (fun _ _ _ h => h) (Or.inr ⟨by rfl, rfl⟩) (by assumption) ?_
          try simp only [Act.put, List.getElem_toArray, List.getElem_cons_succ, List.getElem_cons_zero, List.setIfInBounds_toArray, List.set_cons_zero, List.set_cons_succ]
          refine wpAnyH_take (i := 11) (v := undef) rfl (by kernel_rfl) (by kernel_rfl) (by kernel_rfl) (fun _ _ _ h => h) (Or.inr ⟨by rfl, rfl⟩) (by assumption) ?_
          try simp only [Act.put, List.getElem_toArray, List.getElem_cons_succ, List.getElem_cons_zero, List.setIfInBounds_toArray, List.set_cons_zero, List.set_cons_succ]
          refine wpAnyH_take (i := 12) (v := undef) rfl (by kernel_rfl) (by kernel_rfl) (by kernel_rfl) (fun _ _ _ h => h) (Or.inr ⟨by rfl, rfl⟩) (by assumption) ?_
          try simp only [Act.put, List.getElem_toArray, List.getElem_cons_succ, List.getElem_cons_zero, List.setIfInBounds_toArray, List.set_cons_zero, List.set_cons_succ]
          refine wpAnyH_take (i := 13) (v := undef) rfl (by kernel_rfl) (by kernel_rfl) (by kernel_rfl) (fun _ _ _ h => h) (Or.inr ⟨by rfl, rfl⟩) (by assumption) ?_
          try simp only [Act.put, List.getElem_toArray, List.getElem_cons_succ, List.getElem_cons_zero, List.setIfInBounds_toArray, List.set_cons_zero, List.set_cons_succ]
          refine wpAnyH_take (i := 14) (v := undef) rfl (by kernel_rfl) (by kernel_rfl) (by kernel_rfl) (fun _ _ _ h => h) (Or.inr ⟨by rfl, rfl⟩) (by assumption) ?_
          try simp only [Act.put, List.getElem_toArray, List.getElem_cons_succ, List.getElem_cons_zero, List.setIfInBounds_toArray, List.set_cons_zero, List.set_cons_succ]
          refine wpAnyH_take (i := 15) (v := undef) rfl (by kernel_rfl) (by kernel_rfl) (by kernel_rfl) (fun _ _ _ h => h) (Or.inr ⟨by rfl, rfl⟩) (by assumption) ?_
          try simp only [Act.put, List.getElem_toArray, List.getElem_cons_succ, List.getElem_cons_zero, List.setIfInBounds_toArray, List.set_cons_zero, List.set_cons_succ]
          refine wpAnyH_take (i := 16) (v := ?_) rfl (by kernel_rfl) (by kernel_rfl) (by kernel_rfl) (fun _ _ _ h => h) (Or.inl ⟨by rfl, ?_⟩) (by assumption) ?_
          rotate_left
          · intro W0 hSw; obtain ⟨hSa, hSb⟩ := hSw; go_simp; all_goals (with_reducible rfl)
          try simp only [Act.put, List.getElem_toArray, List.getElem_cons_succ, List.getElem_cons_zero, List.setIfInBounds_toArray, List.set_cons_zero, List.set_cons_succ]
          refine wpAnyH_take (i := 17) (v := ?_) rfl (by kernel_rfl) (by kernel_rfl) (by kernel_rfl) (fun _ _ _ h => h) (Or.inl ⟨by rfl, ?_⟩) (by assumption) ?_
          rotate_left
          · intro W0 hSw; obtain ⟨hSa, hSb⟩ := hSw; go_simp; all_goals (with_reducible rfl)
          try simp only [Act.put, List.getElem_toArray, List.getElem_cons_succ, List.getElem_cons_zero, List.setIfInBounds_toArray, List.set_cons_zero, List.set_cons_succ]
          refine wpAnyH_take (i := 18) (v := ?_) rfl (by kernel_rfl) (by kernel_rfl) (by kernel_rfl) (fun _ _ _ h => h) (Or.inl ⟨by rfl, ?_⟩) (by assumption) ?_
          rotate_left
          · intro W0 hSw; obtain ⟨hSa, hSb⟩ := hSw; go_simp; all_goals (with_reducible rfl)
          try simp only [Act.put, List.getElem_toArray, List.getElem_cons_succ, List.getElem_cons_zero, List.setIfInBounds_toArray, List.set_cons_zero, List.set_cons_succ]
          refine wpAnyH_take (i := 19) (v := ?_) rfl (by kernel_rfl) (by kernel_rfl) (by kernel_rfl) (fun _ _ _ h => h) (Or.inl ⟨by rfl, ?_⟩) (by assumption) ?_
          rotate_left
          · intro W0 hSw; obtain ⟨hSa, hSb⟩ := hSw; go_simp; all_goals (with_reducible rfl)
          try simp only [Act.put, List.getElem_toArray, List.getElem_cons_succ, List.getElem_cons_zero, List.setIfInBounds_toArray, List.set_cons_zero, List.set_cons_succ]
          refine wpAnyH_take (i := 20) (v := ?_) rfl (by kernel_rfl) (by kernel_rfl) (by kernel_rfl) (fun _ _ _ h => h) (Or.inl ⟨by rfl, ?_⟩) (by assumption) ?_
          rotate_left
          · intro W0 hSw; obtain ⟨hSa, hSb⟩ := hSw; go_simp; all_goals (with_reducible rfl)
          try simp only [Act.put, List.getElem_toArray, List.getElem_cons_succ, List.getElem_cons_zero, List.setIfInBounds_toArray, List.set_cons_zero, List.set_cons_succ]
          refine wpAnyH_take (i := 21) (v := ?_) rfl (by kernel_rfl) (by kernel_rfl) (by kernel_rfl) (fun _ _ _ h => h) (Or.inl ⟨by rfl, ?_⟩) (by assumption) ?_
          rotate_left
          · intro W0 hSw; obtain ⟨hSa, hSb⟩ := hSw; go_simp; all_goals (with_reducible rfl)
          try simp only [Act.put, List.getElem_toArray, List.getElem_cons_succ, List.getElem_cons_zero, List.setIfInBounds_toArray, List.set_cons_zero, List.set_cons_succ]
          refine wpAnyH_ready (rs := [22]) (by kernel_rfl) (by simp) ?_
          refine AllReadyH.cons rfl (fun K hK => ?_) AllReadyH.nil
          go_simp
          go_wp2_with (go_at_call 14; (refine (A1.out _ hHeld.1).mono ?_); rintro e wA0 ⟨pwA0, cwA0, rfl, vwA0, bwA0, ywA0, zwA0⟩)
          have hC := hHeld.2.trans (ywA0.mono hHeld.2.size)
          refine hK.out _ _ ?_ (fun hHeld2 => ?_)
          · exact ⟨bwA0, hC⟩
          clear hK K hHeld hHeld2
          have hHeld : Below w7.heap.size w7 wA0 ∧ Below wA0.heap.size wA0 wA0 := ⟨bwA0, zwA0⟩
          refine held_mono (S' := fun W => Below w7.heap.size w7 W ∧ Below wA0.heap.size wA0 W) (fun W hW => ⟨hW.1, hC.trans (hW.2.mono hC.size)⟩) _ _ _ _ ?_
          clear hC
          refine wpAnyH_take (i := 23) (v := ?_) rfl (by kernel_rfl) (by kernel_rfl) (by kernel_rfl) (fun _ _ _ h => h) (Or.inl ⟨by rfl, ?_⟩) (by assumption) ?_
          rotate_left
          · intro W0 hSw; obtain ⟨hSa, hSb⟩ := hSw; go_simp; all_goals (with_reducible rfl)
          try simp only [Act.put, List.getElem_toArray, List.getElem_cons_succ, List.getElem_cons_zero, List.setIfInBounds_toArray, List.set_cons_zero, List.set_cons_succ]
          refine wpAnyH_take (i := 24) (v := ?_) rfl (by kernel_rfl) (by kernel_rfl) (by kernel_rfl) (fun _ _ _ h => h) (Or.inl ⟨by rfl, ?_⟩) (by assumption) ?_
          rotate_left
          · intro W0 hSw; obtain ⟨hSa, hSb⟩ := hSw; go_simp; all_goals (with_reducible rfl)
          try simp only [Act.put, List.getElem_toArray, List.getElem_cons_succ, List.getElem_cons_zero, List.setIfInBounds_toArray, List.set_cons_zero, List.set_cons_succ]
          refine wpAnyH_take (i := 25) (v := ?_) rfl (by kernel_rfl) (by kernel_rfl) (by kernel_rfl) (fun _ _ _ h => h) (Or.inl ⟨by rfl, ?_⟩) (by assumption) ?_
          rotate_left
          · intro W0 hSw; obtain ⟨hSa, hSb⟩ := hSw; go_simp; all_goals (with_reducible rfl)
          try simp only [Act.put, List.getElem_toArray, List.getElem_cons_succ, List.getElem_cons_zero, List.setIfInBounds_toArray, List.set_cons_zero, List.set_cons_succ]
          refine wpAnyH_take (i := 26) (v := ?_) rfl (by kernel_rfl) (by kernel_rfl) (by kernel_rfl) (fun _ _ _ h => h) (Or.inl ⟨by rfl, ?_⟩) (by assumption) ?_
          rotate_left
          · intro W0 hSw; obtain ⟨hSa, hSb⟩ := hSw; go_simp; all_goals (with_reducible rfl)
          try simp only [Act.put, List.getElem_toArray, List.getElem_cons_succ, List.getElem_cons_zero, List.setIfInBounds_toArray, List.set_cons_zero, List.set_cons_succ]
          refine wpAnyH_done (by kernel_rfl) ?_ _
          go_wp2_with fail
          go_ret
          exact ⟨rfl, HB7.out.trans (hHeld.1.mono HB7.out.size)⟩
        · have hdx : d0 = textV S1.data.toList := by rw [show d0 = dAt j S1.data.toList from HX.out.1]; exact if_neg hjz
          have hS0 : S0 = S1 := same_bytes ((VIn.es HV7.out.pv).trans (by rw [hdx]; rfl))
          have hk0 : k0 = 1 := (VIn.ek HV7.out.pv).trans (by rw [hdx]; rfl)
          have hl1 : ∀ W, Below w7.heap.size w7 W → W.cell? ⟨g4, 1, none⟩ = some (.string S1) := fun W hW => ((HV7.out.keep hW).room.c1).trans (by rw [← hS0])
          have hl2 : ∀ W, Below w7.heap.size w7 W → W.cell? ⟨g4, 0, none⟩ = some (.int .u8 1) := fun W hW => ((HV7.out.keep hW).room.c0).trans (by rw [← hk0])
          clear hdx hS0 hk0 HX HV HB hjz
          refine wp_region_held_drew (S := fun W => Below w7.heap.size w7 W ∧ Below w7.heap.size w7 W) (by kernel_rfl) ?_ (fun hHeld => ?_)
          · exact ⟨(Below.refl _ _).drew, (Below.refl _ _).drew⟩
          refine wpAnyH_take (i := 0) (v := ?_) rfl (by kernel_rfl) (by kernel_rfl) (by kernel_rfl) (fun _ _ _ h => h) (Or.inl ⟨by rfl, ?_⟩) (by assumption) ?_
          rotate_left
          · intro W0 hSw; obtain ⟨hSa, hSb⟩ := hSw; go_simp; all_goals (with_reducible rfl)
          try simp only [Act.put, List.getElem_toArray, List.getElem_cons_zero, List.setIfInBounds_toArray, List.set_cons_zero, List.set_cons_succ]
          refine wpAnyH_take (i := 1) (v := ?_) rfl (by kernel_rfl) (by kernel_rfl) (by kernel_rfl) (fun _ _ _ h => h) (Or.inl ⟨by rfl, ?_⟩) (by assumption) ?_
          rotate_left
          · intro W0 hSw; obtain ⟨hSa, hSb⟩ := hSw; go_simp; all_goals (with_reducible rfl)
          try simp only [Act.put, List.getElem_toArray, List.getElem_cons_succ, List.getElem_cons_zero, List.setIfInBounds_toArray, List.set_cons_zero, List.set_cons_succ]
          refine wpAnyH_take (i := 2) (v := ?_) rfl (by kernel_rfl) (by kernel_rfl) (by kernel_rfl) (fun _ _ _ h => h) (Or.inl ⟨by rfl, ?_⟩) (by assumption) ?_
          rotate_left
          · intro W0 hSw; obtain ⟨hSa, hSb⟩ := hSw; go_simp; all_goals (with_reducible rfl)
          try simp only [Act.put, List.getElem_toArray, List.getElem_cons_succ, List.getElem_cons_zero, List.setIfInBounds_toArray, List.set_cons_zero, List.set_cons_succ]
          refine wpAnyH_take (i := 3) (v := ?_) rfl (by kernel_rfl) (by kernel_rfl) (by kernel_rfl) (fun _ _ _ h => h) (Or.inl ⟨by rfl, ?_⟩) (by assumption) ?_
          rotate_left
          · intro W0 hSw; obtain ⟨hSa, hSb⟩ := hSw; go_simp; all_goals (with_reducible rfl)
          try simp only [Act.put, List.getElem_toArray, List.getElem_cons_succ, List.getElem_cons_zero, List.setIfInBounds_toArray, List.set_cons_zero, List.set_cons_succ]
          refine wpAnyH_take (i := 4) (v := ?_) rfl (by kernel_rfl) (by kernel_rfl) (by kernel_rfl) (fun _ _ _ h => h) (Or.inl ⟨by rfl, ?_⟩) (by assumption) ?_
          rotate_left
          · intro W0 hSw; obtain ⟨hSa, hSb⟩ := hSw; go_simp; all_goals (with_reducible rfl)
          try simp only [Act.put, List.getElem_toArray, List.getElem_cons_succ, List.getElem_cons_zero, List.setIfInBounds_toArray, List.set_cons_zero, List.set_cons_succ]
          refine wpAnyH_take (i := 5) (v := ?_) rfl (by kernel_rfl) (by kernel_rfl) (by kernel_rfl) (fun _ _ _ h => h) (Or.inl ⟨by rfl, ?_⟩) (by assumption) ?_
          rotate_left
          · intro W0 hSw; obtain ⟨hSa, hSb⟩ := hSw; go_simp; all_goals (with_reducible rfl)
          try simp only [Act.put, List.getElem_toArray, List.getElem_cons_succ, List.getElem_cons_zero, List.setIfInBounds_toArray, List.set_cons_zero, List.set_cons_succ]
          refine wpAnyH_take (i := 6) (v := ?_) rfl (by kernel_rfl) (by kernel_rfl) (by kernel_rfl) (fun _ _ _ h => h) (Or.inl ⟨by rfl, ?_⟩) (by assumption) ?_
          rotate_left
          · intro W0 hSw; obtain ⟨hSa, hSb⟩ := hSw; go_simp; all_goals (with_reducible rfl)
          try simp only [Act.put, List.getElem_toArray, List.getElem_cons_succ, List.getElem_cons_zero, List.setIfInBounds_toArray, List.set_cons_zero, List.set_cons_succ]
          refine wpAnyH_take (i := 7) (v := ?_) rfl (by kernel_rfl) (by kernel_rfl) (by kernel_rfl) (fun _ _ _ h => h) (Or.inl ⟨by rfl, ?_⟩) (by assumption) ?_
          rotate_left
          · intro W0 hSw; obtain ⟨hSa, hSb⟩ := hSw; go_simp; all_goals (with_reducible rfl)
          try simp only [Act.put, List.getElem_toArray, List.getElem_cons_succ, List.getElem_cons_zero, List.setIfInBounds_toArray, List.set_cons_zero, List.set_cons_succ]
          refine wpAnyH_take (i := 8) (v := ?_) rfl (by kernel_rfl) (by kernel_rfl) (by kernel_rfl) (fun _ _ _ h => h) (Or.inl ⟨by rfl, ?_⟩) (by assumption) ?_
          rotate_left
          · intro W0 hSw; obtain ⟨hSa, hSb⟩ := hSw; go_simp; all_goals (with_reducible rfl)
          try simp only [Act.put, List.getElem_toArray, List.getElem_cons_succ, List.getElem_cons_zero, List.setIfInBounds_toArray, List.set_cons_zero, List.set_cons_succ]
          refine wpAnyH_take (i := 9) (v := ?_) rfl (by kernel_rfl) (by kernel_rfl) (by kernel_rfl) (fun _ _ _ h => h) (Or.inl ⟨by rfl, ?_⟩) (by assumption) ?_
          rotate_left
          · intro W0 hSw; obtain ⟨hSa, hSb⟩ := hSw; go_simp; all_goals (with_reducible rfl)
          try simp only [Act.put, List.getElem_toArray, List.getElem_cons_succ, List.getElem_cons_zero, List.setIfInBounds_toArray, List.set_cons_zero, List.set_cons_succ]
          refine wpAnyH_take (i := 10) (v := ?_) rfl (by kernel_rfl) (by kernel_rfl) (by kernel_rfl) (fun _ _ _ h => h) (Or.inl ⟨by rfl, ?_⟩) (by assumption) ?_
          rotate_left
          · intro W0 hSw; obtain ⟨hSa, hSb⟩ := hSw; go_simp; all_goals (with_reducible rfl)
          try simp only [Act.put, List.getElem_toArray, List.getElem_cons_succ, List.getElem_cons_zero, List.setIfInBounds_toArray, List.set_cons_zero, List.set_cons_succ]
          refine wpAnyH_take (i := 11) (v := ?_) rfl (by kernel_rfl) (by kernel_rfl) (by kernel_rfl) (fun _ _ _ h => h) (Or.inl ⟨by rfl, ?_⟩) (by assumption) ?_
          rotate_left
          · intro W0 hSw; obtain ⟨hSa, hSb⟩ := hSw; go_simp; all_goals (with_reducible rfl)
          try simp only [Act.put, List.getElem_toArray, List.getElem_cons_succ, List.getElem_cons_zero, List.setIfInBounds_toArray, List.set_cons_zero, List.set_cons_succ]
          refine wpAnyH_take (i := 12) (v := ?_) rfl (by kernel_rfl) (by kernel_rfl) (by kernel_rfl) (fun _ _ _ h => h) (Or.inl ⟨by rfl, ?_⟩) (by assumption) ?_
          rotate_left
          · intro W0 hSw; obtain ⟨hSa, hSb⟩ := hSw; go_simp; all_goals (with_reducible rfl)
          try simp only [Act.put, List.getElem_toArray, List.getElem_cons_succ, List.getElem_cons_zero, List.setIfInBounds_toArray, List.set_cons_zero, List.set_cons_succ]
          refine wpAnyH_take (i := 13) (v := ?_) rfl (by kernel_rfl) (by kernel_rfl) (by kernel_rfl) (fun _ _ _ h => h) (Or.inl ⟨by rfl, ?_⟩) (by assumption) ?_
          rotate_left
          · intro W0 hSw; obtain ⟨hSa, hSb⟩ := hSw; go_simp; all_goals (with_reducible rfl)
          try simp only [Act.put, List.getElem_toArray, List.getElem_cons_succ, List.getElem_cons_zero, List.setIfInBounds_toArray, List.set_cons_zero, List.set_cons_succ]
          refine wpAnyH_take (i := 14) (v := ?_) rfl (by kernel_rfl) (by kernel_rfl) (by kernel_rfl) (fun _ _ _ h => h) (Or.inl ⟨by rfl, ?_⟩) (by assumption) ?_
          rotate_left
          · intro W0 hSw; obtain ⟨hSa, hSb⟩ := hSw; go_simp; all_goals (with_reducible rfl)
          try simp only [Act.put, List.getElem_toArray, List.getElem_cons_succ, List.getElem_cons_zero, List.setIfInBounds_toArray, List.set_cons_zero, List.set_cons_succ]
          refine wpAnyH_take (i := 15) (v := ?_) rfl (by kernel_rfl) (by kernel_rfl) (by kernel_rfl) (fun _ _ _ h => h) (Or.inl ⟨by rfl, ?_⟩) (by assumption) ?_
          rotate_left
          · intro W0 hSw; obtain ⟨hSa, hSb⟩ := hSw; go_simp; all_goals (with_reducible rfl)
          try simp only [Act.put, List.getElem_toArray, List.getElem_cons_succ, List.getElem_cons_zero, List.setIfInBounds_toArray, List.set_cons_zero, List.set_cons_succ]
          refine wpAnyH_take (i := 16) (v := ?_) rfl (by kernel_rfl) (by kernel_rfl) (by kernel_rfl) (fun _ _ _ h => h) (Or.inl ⟨by rfl, ?_⟩) (by assumption) ?_
          rotate_left
          · intro W0 hSw; obtain ⟨hSa, hSb⟩ := hSw; go_simp; all_goals (with_reducible rfl)
          try simp only [Act.put, List.getElem_toArray, List.getElem_cons_succ, List.getElem_cons_zero, List.setIfInBounds_toArray, List.set_cons_zero, List.set_cons_succ]
          refine wpAnyH_take (i := 17) (v := ?_) rfl (by kernel_rfl) (by kernel_rfl) (by kernel_rfl) (fun _ _ _ h => h) (Or.inl ⟨by rfl, ?_⟩) (by assumption) ?_
          rotate_left
          · intro W0 hSw; obtain ⟨hSa, hSb⟩ := hSw; go_simp; all_goals (with_reducible rfl)
          try simp only [Act.put, List.getElem_toArray, List.getElem_cons_succ, List.getElem_cons_zero, List.setIfInBounds_toArray, List.set_cons_zero, List.set_cons_succ]
          refine wpAnyH_take (i := 18) (v := ?_) rfl (by kernel_rfl) (by kernel_rfl) (by kernel_rfl) (fun _ _ _ h => h) (Or.inl ⟨by rfl, ?_⟩) (by assumption) ?_
          rotate_left
          · intro W0 hSw; obtain ⟨hSa, hSb⟩ := hSw; go_simp; all_goals (with_reducible rfl)
          try simp only [Act.put, List.getElem_toArray, List.getElem_cons_succ, List.getElem_cons_zero, List.setIfInBounds_toArray, List.set_cons_zero, List.set_cons_succ]
          refine wpAnyH_take (i := 19) (v := ?_) rfl (by kernel_rfl) (by kernel_rfl) (by kernel_rfl) (fun _ _ _ h => h) (Or.inl ⟨by rfl, ?_⟩) (by assumption) ?_
          rotate_left
          · intro W0 hSw; obtain ⟨hSa, hSb⟩ := hSw; go_simp; all_goals (with_reducible rfl)
          try simp only [Act.put, List.getElem_toArray, List.getElem_cons_succ, List.getElem_cons_zero, List.setIfInBounds_toArray, List.set_cons_zero, List.set_cons_succ]
          refine wpAnyH_take (i := 20) (v := ?_) rfl (by kernel_rfl) (by kernel_rfl) (by kernel_rfl) (fun _ _ _ h => h) (Or.inl ⟨by rfl, ?_⟩) (by assumption) ?_
          rotate_left
          · intro W0 hSw; obtain ⟨hSa, hSb⟩ := hSw; go_simp; all_goals (with_reducible rfl)
          try simp only [Act.put, List.getElem_toArray, List.getElem_cons_succ, List.getElem_cons_zero, List.setIfInBounds_toArray, List.set_cons_zero, List.set_cons_succ]
          refine wpAnyH_take (i := 21) (v := ?_) rfl (by kernel_rfl) (by kernel_rfl) (by kernel_rfl) (fun _ _ _ h => h) (Or.inl ⟨by rfl, ?_⟩) (by assumption) ?_
          rotate_left
          · intro W0 hSw; obtain ⟨hSa, hSb⟩ := hSw; go_simp; all_goals (with_reducible rfl)
          try simp only [Act.put, List.getElem_toArray, List.getElem_cons_succ, List.getElem_cons_zero, List.setIfInBounds_toArray, List.set_cons_zero, List.set_cons_succ]
          refine wpAnyH_ready (rs := [22]) (by kernel_rfl) (by simp) ?_
          refine AllReadyH.cons rfl (fun K hK => ?_) AllReadyH.nil
          go_simp
          go_wp2_with (go_at_call 14; (refine (A1.out _ hHeld.1).mono ?_); rintro e wA0 ⟨pwA0, cwA0, rfl, vwA0, bwA0, ywA0, zwA0⟩)
          have hC := hHeld.2.trans (ywA0.mono hHeld.2.size)
          refine hK.out _ _ ?_ (fun hHeld2 => ?_)
          · exact ⟨bwA0, hC⟩
          clear hK K hHeld hHeld2
          have hHeld : Below w7.heap.size w7 wA0 ∧ Below wA0.heap.size wA0 wA0 := ⟨bwA0, zwA0⟩
          refine held_mono (S' := fun W => Below w7.heap.size w7 W ∧ Below wA0.heap.size wA0 W) (fun W hW => ⟨hW.1, hC.trans (hW.2.mono hC.size)⟩) _ _ _ _ ?_
          clear hC
          refine wpAnyH_take (i := 23) (v := ?_) rfl (by kernel_rfl) (by kernel_rfl) (by kernel_rfl) (fun _ _ _ h => h) (Or.inl ⟨by rfl, ?_⟩) (by assumption) ?_
          rotate_left
          · intro W0 hSw; obtain ⟨hSa, hSb⟩ := hSw; go_simp; all_goals (with_reducible rfl)
          try simp only [Act.put, List.getElem_toArray, List.getElem_cons_succ, List.getElem_cons_zero, List.setIfInBounds_toArray, List.set_cons_zero, List.set_cons_succ]
          refine wpAnyH_take (i := 24) (v := ?_) rfl (by kernel_rfl) (by kernel_rfl) (by kernel_rfl) (fun _ _ _ h => h) (Or.inl ⟨by rfl, ?_⟩) (by assumption) ?_
          rotate_left
          · intro W0 hSw; obtain ⟨hSa, hSb⟩ := hSw; go_simp; all_goals (with_reducible rfl)
          try simp only [Act.put, List.getElem_toArray, List.getElem_cons_succ, List.getElem_cons_zero, List.setIfInBounds_toArray, List.set_cons_zero, List.set_cons_succ]
          refine wpAnyH_take (i := 25) (v := ?_) rfl (by kernel_rfl) (by kernel_rfl) (by kernel_rfl) (fun _ _ _ h => h) (Or.inl ⟨by rfl, ?_⟩) (by assumption) ?_
          rotate_left
          · intro W0 hSw; obtain ⟨hSa, hSb⟩ := hSw; go_simp; all_goals (with_reducible rfl)
          try simp only [Act.put, List.getElem_toArray, List.getElem_cons_succ, List.getElem_cons_zero, List.setIfInBounds_toArray, List.set_cons_zero, List.set_cons_succ]
          refine wpAnyH_take (i := 26) (v := ?_) rfl (by kernel_rfl) (by kernel_rfl) (by kernel_rfl) (fun _ _ _ h => h) (Or.inl ⟨by rfl, ?_⟩) (by assumption) ?_
          rotate_left
          · intro W0 hSw; obtain ⟨hSa, hSb⟩ := hSw; go_simp; all_goals (with_reducible rfl)
          try simp only [Act.put, List.getElem_toArray, List.getElem_cons_succ, List.getElem_cons_zero, List.setIfInBounds_toArray, List.set_cons_zero, List.set_cons_succ]
          refine wpAnyH_done (by kernel_rfl) ?_ _
          go_wp2_with fail
          go_ret
          exact ⟨rfl, HB7.out.trans (hHeld.1.mono HB7.out.size)⟩

end Go.Proofs.YthiaflnlmabikaaDoor.textsJoins
