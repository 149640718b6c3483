/-
  ListsLeaves: of a list from both ends of which texts are taken what is left is its middle; one that is empty is none.
-/
import Derived.Test.YteadjcligmmkmaaDoorLisLaw
import Derived.Test.YteadjcligmmkmaaDoorRefTexts
import Derived.Deep.QuietTactic
import Derived.Deep.DeepCutAuto
import Derived.BigQuiet
import Derived.StillTailTactics
import Derived.Deep.RegionLaw
namespace Go.Proofs.YteadjcligmmkmaaDoor.listsLeaves
open Go.RowKit Kit StrT RowG BOrd ValT StoT ReplyT ReplyMath ValM BytesIn DoT Low MapT LstT LisT NumL NumW NumMath ReplyM LisM SaidT RefR DoV LisL
set_option linter.unusedVariables false
set_option maxRecDepth 100000
-- ASKS: NumL.Gd
-- UPTO


theorem push_to (N : List (List UInt8)) : rowD 1 [] N = (N, (rowD 1 [] N).2) := by
  show ([] ++ N, _) = _
  rw [List.nil_append]
  rfl
theorem modl (a n : Int) (k : Nat) (h0 : 0 ≤ a) (hn : 1 ≤ n) (hk : (k : Int) = a % n) : (k : Int) < n ∧ 0 ≤ (k : Int) := by
  have h1 := Int.emod_lt_of_pos a (show 0 < n by omega)
  omega
theorem kk_list {w : World} {p : PV} {L : List (List UInt8)} (h : p.In w) (hd : p.d = listV L) : (L.length = 0 ∧ p.k = 0) ∨ (0 < L.length ∧ p.k = 2) := by
  have e := kind_of h hd
  rcases Nat.eq_zero_or_pos L.length with h0 | h0
  · obtain rfl : L = [] := List.eq_nil_of_length_eq_zero h0
    exact Or.inl ⟨rfl, e⟩
  · rw [listV_some h0] at e
    exact Or.inr ⟨h0, e⟩

set_option maxHeartbeats 16000000 in
theorem walk (q : Option Addr) (L : List (List UInt8)) (n c : Nat) (a b : Int) (w : World) (hL : L.length = n) (h : StrT.Ss w q L) (hz : ∀ s ∈ L, s.length ≤ 140737488351232) (hcap : n ≤ c) (hcm : c ≤ 9223372036854775807) (hnil : q = none → c = 0) (hup : L.flatten.length + L.length ≤ 1048576) (a0 : 0 ≤ a) (a1 : a ≤ 255) (b0 : 0 ≤ b) (b1 : b ≤ 255) (hg : Gd w) :
    Calls Tryd.prog 7 #[.slice q n c, .int .u8 a, .int .u8 b] w fun e w' => e = .returned (.bool true) ∧ Below w.heap.size w w' := by
  have HG := Lib.hid (fun W (h : Below w.heap.size w W) => hg.keep h)
  have C0 := Lib.hid (shown_any w hg)
  obtain ⟨m, hm⟩ : ∃ m : Nat, m = min n 12 := ⟨_, rfl⟩
  have hmin : min (n : Int) 12 = (m : Int) := by omega
  have hm12 : m ≤ 12 := by omega
  have sl := fun W => sl_take q n c m (by omega) W
  have HM0 := Lib.hid (show SR w q m c (L.take m) from ⟨by rw [List.length_take, hL]; omega, by omega, hcm, hnil, h.take m⟩)
  have HFl := Lib.hid (show (L.take m).flatten.length ≤ 1048576 by have := flat_part L 0 m; rw [List.drop_zero] at this; omega)
  have hnz : (n : Int) ≤ 9223372036854775807 := by omega
  have hmc : m ≤ c := by omega
  clear h hz hg hnil hL hm hup hcm
  generalize L.take m = M at HM0 HFl
  have HLn := Lib.hid HM0.out.ln
  have HNl := Lib.hid HM0.out.nl
  have HTm := Lib.hid (fun s (hs : s ∈ M) => Nat.le_trans (mem_flat' M s hs) HFl.out)
  go_enter Tryd.func7, Tryd.ntmps7
  go_wp2_with fail
  with_reducible refine C0.out.mono ?_
  rintro e w1 ⟨rfl, hb1⟩
  have HB := Lib.hid hb1
  have HS := Lib.hid (HM0.out.keep hb1)
  have HS1 := HS
  have HBs := HB
  have HB0 := Lib.hid (Below.refl w1.heap.size w1)
  clear hb1 C0
  rcases Nat.eq_zero_or_pos m with h0 | h0
  · subst h0
    have hvp := pv0_in w1
    obtain ⟨NN, HNN⟩ : ∃ NR, Hid (null.length = NR) := ⟨_, Lib.hid rfl⟩
    obtain ⟨XN, HXN⟩ : ∃ XR : ByteArray, Hid (XR.data.toList = null) := ⟨⟨null.toArray⟩, Lib.hid rfl⟩
    have C1 := Lib.hid (fun (W Y : World) (g : Nat) (hY : Below (W.alloc (.cells #[.string ⟨#[114, 112, 111, 112]⟩, .string ⟨#[107]⟩] 9)).heap.size (W.alloc (.cells #[.string ⟨#[114, 112, 111, 112]⟩, .string ⟨#[107]⟩] 9)) Y) (hgw : g = W.heap.size) (hW : Below w.heap.size w W) => (show Calls Tryd.prog 12 #[.agg #[.int .u8 0, .string ⟨#[]⟩, .slice none 0 0, .slice none 0 0, .slice none 0 0], .slice (some ⟨g, 0, none⟩) 2 2] Y (DoN (listV []) null W) from by subst hgw; exact don_to rfl (on2 3 (by decide) ⟨#[114, 112, 111, 112]⟩ ⟨#[107]⟩ (by decide) (by decide) (by decide) pv0 [] W Y hY (pv0_in W) rfl (HG.out W hW) (tame3 (fun s hs => by cases hs)))))
    go_wp2_with fail
    with_reducible refine (C1.out w1 _ _ (Below.refl _ _) rfl HB.out).mono ?_
    rintro e w2 ⟨p9, vr9, rfl, hI, hd, hn, hA, hb⟩
    obtain ⟨k9, S9, ql9, nl9, cl9, qh9, nh9, ch9, qz9, nz9, cz9, d9⟩ := p9
    dsimp only [PV.agg]
    obtain ⟨qr9, cr9, rfl, hv9⟩ := ans_text hA NN HNN.out XN HXN.out
    have hbn := (show Below w1.heap.size w1 w2 from hb).trans ((Kit.below1 w2 (.cells #[.int .u8 k9, .string S9, .slice ql9 nl9 cl9, .slice qh9 nh9 ch9, .slice qz9 nz9 cz9] 26)).mono (show Below w1.heap.size w1 w2 from hb).size)
    have HB := Lib.hid (HB.out.trans (hbn.mono HB.out.size))
    have HV9 := Lib.hid (show VB _ w2.heap.size ⟨k9, S9, ql9, nl9, cl9, qh9, nh9, ch9, qz9, nz9, cz9, d9⟩ from VB.new hI)
    have HD9 := Lib.hid (show PV.d ⟨k9, S9, ql9, nl9, cl9, qh9, nh9, ch9, qz9, nz9, cz9, d9⟩ = _ from hd)
    have hbx := Kit.below1 w2 (.cells #[.int .u8 k9, .string S9, .slice ql9 nl9 cl9, .slice qh9 nh9 ch9, .slice qz9 nz9 cz9] 26)
    have HC9 := Lib.hid (fun W hW => hv9 W (hbx.trans (Below.mono hW hbx.size)))
    clear hbx
    have HL9 := Lib.hid (show w1.heap.size ≤ w2.heap.size from Below.size (show Below w1.heap.size w1 w2 from hb))
    clear hI hd hn hA hb hbn hv9
    go_upto_region 5 with fail
    generalize hgg : w2.heap.size = g9 at HV9 HL9 ⊢
    clear hgg
    generalize w2.alloc (.cells #[.int .u8 k9, .string S9, .slice ql9 nl9 cl9, .slice qh9 nh9 ch9, .slice qz9 nz9 cz9] 26) = w3 at HV9 HB HC9 ⊢
    have hk9 : k9 = 0 := by rcases kk_list (p := ⟨k9, S9, ql9, nl9, cl9, qh9, nh9, ch9, qz9, nz9, cz9, d9⟩) HV9.out.pv HD9.out with h | h; exact h.2; exact absurd h.1 (by simp)
    subst hk9
    have hl : ∀ W, Below w3.heap.size w3 W → W.cell? ⟨g9, 0, none⟩ = some (.int .u8 0) := fun W hW => (HV9.out.keep hW).room.c0
    have hc := HC9.out
    have A1 := Lib.hid (fun W (h : Below w3.heap.size w3 W) => (show Calls Tryd.prog 15 #[] W (Said w3 W NN XN) from (rnull W).mono (fun e w' hh => said_of hh h NN HNN.out XN HXN.out)))
    clear HV9 HD9 HC9 HL9 C1 hvp HNN HXN
    refine wp_region_held_drew (S := fun W => Below w3.heap.size w3 W ∧ Below w3.heap.size w3 W) (by kernel_rfl) ?_ (fun hHeld => ?_)
    · exact ⟨(Below.refl _ _).drew, (Below.refl _ _).drew⟩
    refine wpAnyH_take (i := 0) (v := ?_) rfl (by kernel_rfl) (by kernel_rfl) (by kernel_rfl) (fun _ _ _ h => h) (Or.inl ⟨by rfl, ?_⟩) (by assumption) ?_
    rotate_left
    · intro W0 hSw; obtain ⟨hSa, hSb⟩ := hSw; go_simp; all_goals (with_reducible rfl)
    try simp only [Act.put, List.getElem_toArray, List.getElem_cons_zero, List.setIfInBounds_toArray, List.set_cons_zero, List.set_cons_succ]
    refine wpAnyH_take (i := 1) (v := ?_) rfl (by kernel_rfl) (by kernel_rfl) (by kernel_rfl) (fun _ _ _ h => h) (Or.inl ⟨by rfl, ?_⟩) (by assumption) ?_
    rotate_left
    · intro W0 hSw; obtain ⟨hSa, hSb⟩ := hSw; go_simp; all_goals (with_reducible rfl)
    try simp only [Act.put, List.getElem_toArray, List.getElem_cons_succ, List.getElem_cons_zero, List.setIfInBounds_toArray, List.set_cons_zero, List.set_cons_succ]
    refine wpAnyH_take (i := 2) (v := ?_) rfl (by kernel_rfl) (by kernel_rfl) (by kernel_rfl) (fun _ _ _ h => h) (Or.inl ⟨by rfl, ?_⟩) (by assumption) ?_
    rotate_left
    · intro W0 hSw; obtain ⟨hSa, hSb⟩ := hSw; go_simp; all_goals (with_reducible rfl)
    try simp only [Act.put, List.getElem_toArray, List.getElem_cons_succ, List.getElem_cons_zero, List.setIfInBounds_toArray, List.set_cons_zero, List.set_cons_succ]
    refine wpAnyH_take (i := 3) (v := ?_) rfl (by kernel_rfl) (by kernel_rfl) (by kernel_rfl) (fun _ _ _ h => h) (Or.inl ⟨by rfl, ?_⟩) (by assumption) ?_
    rotate_left
    · intro W0 hSw; obtain ⟨hSa, hSb⟩ := hSw; go_simp; all_goals (with_reducible rfl)
    try simp only [Act.put, List.getElem_toArray, List.getElem_cons_succ, List.getElem_cons_zero, List.setIfInBounds_toArray, List.set_cons_zero, List.set_cons_succ]
    refine wpAnyH_take (i := 4) (v := ?_) rfl (by kernel_rfl) (by kernel_rfl) (by kernel_rfl) (fun _ _ _ h => h) (Or.inl ⟨by rfl, ?_⟩) (by assumption) ?_
    rotate_left
    · intro W0 hSw; obtain ⟨hSa, hSb⟩ := hSw; go_simp; all_goals (with_reducible rfl)
    try simp only [Act.put, List.getElem_toArray, List.getElem_cons_succ, List.getElem_cons_zero, List.setIfInBounds_toArray, List.set_cons_zero, List.set_cons_succ]
    refine wpAnyH_take (i := 5) (v := ?_) rfl (by kernel_rfl) (by kernel_rfl) (by kernel_rfl) (fun _ _ _ h => h) (Or.inl ⟨by rfl, ?_⟩) (by assumption) ?_
    rotate_left
    · intro W0 hSw; obtain ⟨hSa, hSb⟩ := hSw; go_simp; all_goals (with_reducible rfl)
    try simp only [Act.put, List.getElem_toArray, List.getElem_cons_succ, List.getElem_cons_zero, List.setIfInBounds_toArray, List.set_cons_zero, List.set_cons_succ]
    refine wpAnyH_take (i := 6) (v := ?_) rfl (by kernel_rfl) (by kernel_rfl) (by kernel_rfl) (fun _ _ _ h => h) (Or.inl ⟨by rfl, ?_⟩) (by assumption) ?_
    rotate_left
    · intro W0 hSw; obtain ⟨hSa, hSb⟩ := hSw; go_simp; all_goals (with_reducible rfl)
    try simp only [Act.put, List.getElem_toArray, List.getElem_cons_succ, List.getElem_cons_zero, List.setIfInBounds_toArray, List.set_cons_zero, List.set_cons_succ]
    refine wpAnyH_take (i := 7) (v := ?_) rfl (by kernel_rfl) (by kernel_rfl) (by kernel_rfl) (fun _ _ _ h => h) (Or.inl ⟨by rfl, ?_⟩) (by assumption) ?_
    rotate_left
    · intro W0 hSw; obtain ⟨hSa, hSb⟩ := hSw; go_simp; all_goals (with_reducible rfl)
    try simp only [Act.put, List.getElem_toArray, List.getElem_cons_succ, List.getElem_cons_zero, List.setIfInBounds_toArray, List.set_cons_zero, List.set_cons_succ]
    refine wpAnyH_take (i := 8) (v := ?_) rfl (by kernel_rfl) (by kernel_rfl) (by kernel_rfl) (fun _ _ _ h => h) (Or.inl ⟨by rfl, ?_⟩) (by assumption) ?_
    rotate_left
    · intro W0 hSw; obtain ⟨hSa, hSb⟩ := hSw; go_simp; all_goals (with_reducible rfl)
    try simp only [Act.put, List.getElem_toArray, List.getElem_cons_succ, List.getElem_cons_zero, List.setIfInBounds_toArray, List.set_cons_zero, List.set_cons_succ]
    refine wpAnyH_ready (rs := [9]) (by kernel_rfl) (by simp) ?_
    refine AllReadyH.cons rfl (fun K hK => ?_) AllReadyH.nil
    go_simp
    go_wp2_with (go_at_call 15; (refine (A1.out _ hHeld.1).mono ?_); rintro e wA0 ⟨pwA0, cwA0, rfl, vwA0, bwA0, ywA0, zwA0⟩)
    have hC := hHeld.2.trans (ywA0.mono hHeld.2.size)
    refine hK.out _ _ ?_ (fun hHeld2 => ?_)
    · exact ⟨bwA0, hC⟩
    clear hK K hHeld hHeld2
    have hHeld : Below w3.heap.size w3 wA0 ∧ Below wA0.heap.size wA0 wA0 := ⟨bwA0, zwA0⟩
    refine held_mono (S' := fun W => Below w3.heap.size w3 W ∧ Below wA0.heap.size wA0 W) (fun W hW => ⟨hW.1, hC.trans (hW.2.mono hC.size)⟩) _ _ _ _ ?_
    clear hC
    refine wpAnyH_take (i := 10) (v := ?_) rfl (by kernel_rfl) (by kernel_rfl) (by kernel_rfl) (fun _ _ _ h => h) (Or.inl ⟨by rfl, ?_⟩) (by assumption) ?_
    rotate_left
    · intro W0 hSw; obtain ⟨hSa, hSb⟩ := hSw; go_simp; all_goals (with_reducible rfl)
    try simp only [Act.put, List.getElem_toArray, List.getElem_cons_succ, List.getElem_cons_zero, List.setIfInBounds_toArray, List.set_cons_zero, List.set_cons_succ]
    refine wpAnyH_take (i := 11) (v := ?_) rfl (by kernel_rfl) (by kernel_rfl) (by kernel_rfl) (fun _ _ _ h => h) (Or.inl ⟨by rfl, ?_⟩) (by assumption) ?_
    rotate_left
    · intro W0 hSw; obtain ⟨hSa, hSb⟩ := hSw; go_simp; all_goals (with_reducible rfl)
    try simp only [Act.put, List.getElem_toArray, List.getElem_cons_succ, List.getElem_cons_zero, List.setIfInBounds_toArray, List.set_cons_zero, List.set_cons_succ]
    refine wpAnyH_take (i := 12) (v := ?_) rfl (by kernel_rfl) (by kernel_rfl) (by kernel_rfl) (fun _ _ _ h => h) (Or.inl ⟨by rfl, ?_⟩) (by assumption) ?_
    rotate_left
    · intro W0 hSw; obtain ⟨hSa, hSb⟩ := hSw; go_simp; all_goals (with_reducible rfl)
    try simp only [Act.put, List.getElem_toArray, List.getElem_cons_succ, List.getElem_cons_zero, List.setIfInBounds_toArray, List.set_cons_zero, List.set_cons_succ]
    refine wpAnyH_take (i := 13) (v := ?_) rfl (by kernel_rfl) (by kernel_rfl) (by kernel_rfl) (fun _ _ _ h => h) (Or.inl ⟨by rfl, ?_⟩) (by assumption) ?_
    rotate_left
    · intro W0 hSw; obtain ⟨hSa, hSb⟩ := hSw; go_simp; all_goals (with_reducible rfl)
    try simp only [Act.put, List.getElem_toArray, List.getElem_cons_succ, List.getElem_cons_zero, List.setIfInBounds_toArray, List.set_cons_zero, List.set_cons_succ]
    refine wpAnyH_done (by kernel_rfl) ?_ _
    go_wp2_with fail
    go_ret
    exact ⟨rfl, HB.out.trans (hHeld.1.mono HB.out.size)⟩
  · have tz : ((m : Int) == 0) = false := by rw [beq_eq_false_iff_ne]; omega
    obtain ⟨nz, hnz2⟩ : ∃ nz, nz = 2 + m := ⟨_, rfl⟩
    have hnzb : nz ≤ 14 := by omega
    have HNz := Lib.hid hnz2
    obtain ⟨ka, hka⟩ : ∃ ka : Nat, (ka : Int) = a % ((m : Int) + 1) := ⟨(a % ((m : Int) + 1)).toNat, Int.toNat_of_nonneg (Int.emod_nonneg _ (by omega))⟩
    have hka1 := (modl a _ ka a0 (by omega) hka).1
    obtain ⟨kb, hkb⟩ : ∃ kb : Nat, (kb : Int) = b % ((m : Int) - (ka : Int) + 1) := ⟨(b % ((m : Int) - (ka : Int) + 1)).toNat, Int.toNat_of_nonneg (Int.emod_nonneg _ (by omega))⟩
    have hkb1 := (modl b _ kb b0 (by omega) hkb).1
    have hka2 : ka ≤ m := by omega
    have hkb2 : kb ≤ m - ka := by omega
    have z1 : ((m : Int) + 1 == 0) = false := by rw [beq_eq_false_iff_ne]; omega
    have z2 : ((m : Int) - (ka : Int) + 1 == 0) = false := by rw [beq_eq_false_iff_ne]; omega
    have z3 : ¬ (m : Int) + 1 = 0 := by omega
    have z4 : ¬ (m : Int) - (ka : Int) + 1 = 0 := by omega
    have HKa := Lib.hid hka.symm
    have HKb := Lib.hid hkb.symm
    clear hka hkb hka1 hkb1 hnz2
    have hba := Kit.below1 w1 (.cells #[.string ⟨#[114, 112, 117, 115, 104]⟩, .string ⟨#[107]⟩] 9)
    have HLt := Lib.hid (lit2 w1 ⟨#[114, 112, 117, 115, 104]⟩ ⟨#[107]⟩)
    have HBl := Lib.hid hba
    have HSa := Lib.hid (rs_ss.2 (HS.out.keep hba).ss)
    clear hba
    obtain ⟨Z, hZ⟩ : ∃ Z : List (List UInt8), Z = [(⟨#[114, 112, 117, 115, 104]⟩ : ByteArray).data.toList, (⟨#[107]⟩ : ByteArray).data.toList] ++ M := ⟨_, rfl⟩
    have HZl := Lib.hid (show Z.length = nz by rw [hZ, HNz.out]; simp; have := HLn.out; omega)
    have CP := Lib.hid (fun (W : World) (qz6 : Option Addr) (cz6 : Nat) (hs : SR W qz6 nz cz6 Z) (hW : Below w.heap.size w W) => (show Calls Tryd.prog 12 #[.agg #[.int .u8 0, .string ⟨#[]⟩, .slice none 0 0, .slice none 0 0, .slice none 0 0], .slice qz6 nz cz6] W (DoN (listV (M)) ((rowD 1 [] M).2) W) from don_to (push_to M) (onR 1 (by decide) pv0 [] ⟨#[114, 112, 117, 115, 104]⟩ ⟨#[107]⟩ M qz6 nz cz6 W (pv0_in W) rfl (HG.out W hW) (by rw [HNz.out, HLn.out]) hs.nc (by rw [HNz.out]; show 3 ≤ _; omega) (by have := hs.ss; rw [hZ] at this; exact this) (by decide) (by decide) (tame1 (by have := HLn.out; simp; omega)))))
    have HZ := Lib.hid hZ
    clear hZ
    go_wp2_with (at_builtin; refine wpList_append_rs strE (w0 := w1) rfl (.tmp 49) (.tmp 50) rfl (.slice (some ⟨w1.heap.size, 0, none⟩) 2 2) _ rfl HLt.out HBl.out q M m c rfl HLn.out HSa.out HNl.out (by simp; omega) Z HZ.out ?_; intro v6 w5 ho6 hb6; obtain ⟨q6, c6, rfl, hs6⟩ := SR.of ho6; rw [HZl.out] at hs6 ⊢)
    with_reducible refine (CP.out w5 q6 c6 hs6 (HB.out.trans (hb6.mono HB.out.size))).mono ?_
    rintro e w2 ⟨p1, vr1, rfl, hI, hd, hn, hA, hb⟩
    obtain ⟨k1, S1, ql1, nl1, cl1, qh1, nh1, ch1, qz1, nz1, cz1, d1⟩ := p1
    dsimp only [PV.agg]
    have hn : ∀ k, PV.at_ ⟨k1, S1, ql1, nl1, cl1, qh1, nh1, ch1, qz1, nz1, cz1, d1⟩ k → w1.heap.size ≤ k := fun k hk => Nat.le_trans hb6.size (hn k hk)
    have hb := hb6.trans (hb.mono hb6.size)
    clear hs6 ho6 hb6 CP HZ HZl HLt HBl HSa
    have hbn := hb.trans ((Kit.below1 w2 (.cells #[.int .u8 k1, .string S1, .slice ql1 nl1 cl1, .slice qh1 nh1 ch1, .slice qz1 nz1 cz1] 26)).mono hb.size)
    have HS := Lib.hid (HS.out.keep hbn)
    have HB := Lib.hid (HB.out.trans (hbn.mono HB.out.size))
    have HB0 := Lib.hid (HB0.out.trans (hbn.mono HB0.out.size))
    have HV1 := Lib.hid (show VB _ w2.heap.size ⟨k1, S1, ql1, nl1, cl1, qh1, nh1, ch1, qz1, nz1, cz1, d1⟩ from VB.new hI)
    have HD1 := Lib.hid (show PV.d ⟨k1, S1, ql1, nl1, cl1, qh1, nh1, ch1, qz1, nz1, cz1, d1⟩ = _ from hd)
    have HN1 := Lib.hid (show ∀ k, PV.at_ ⟨k1, S1, ql1, nl1, cl1, qh1, nh1, ch1, qz1, nz1, cz1, d1⟩ k → w1.heap.size ≤ k from hn)
    have HL1 := Lib.hid (show w1.heap.size ≤ w2.heap.size from Below.size hb)
    clear hI hd hn hA hb hbn
    go_upto_region 8 with fail
    generalize hgg : w2.heap.size = g1 at HV1 HL1 ⊢
    clear hgg
    generalize w2.alloc (.cells #[.int .u8 k1, .string S1, .slice ql1 nl1 cl1, .slice qh1 nh1 ch1, .slice qz1 nz1 cz1] 26) = w3 at HV1 HS HB HB0 ⊢
    rw [HKa.out]
    go_upto_region 9 with fail
    rw [HKb.out]
    go_wp2_with fail
    go_loopw [15] (fun i wr => ∃ (x : Nat) (p : PV), x ≤ ka ∧ i = .int .i64 (x : Int) ∧ Hid (p.d = listV (M.drop x)) ∧ Hid (VB wr g1 p) ∧ Hid (Below w1.heap.size w1 wr)) (fun i _ => ka - (intOf i).toNat)
    case atStart => exact ⟨0, ⟨k1, S1, ql1, nl1, cl1, qh1, nh1, ch1, qz1, nz1, cz1, d1⟩, Nat.zero_le _, rfl, HD1, HV1, HB0⟩
    case round =>
      clear HV1 HB0 HD1 HN1 HB HS
      obtain ⟨x, p, hx, rfl, HD, HV, HBx⟩ := hrel
      obtain ⟨k0, S0, ql0, nl0, cl0, qh0, nh0, ch0, qz0, nz0, cz0, d0⟩ := p
      have HBw := Lib.hid (HBs.out.trans (HBx.out.mono HBs.out.size))
      by_cases hlt : x < ka
      · have t1 : decide ((x : Int) < (ka : Int)) = true := decide_eq_true (by omega)
        have C1 := Lib.hid (fun (W Y : World) (g : Nat) (hY : Below (W.alloc (.cells #[.string ⟨#[108, 112, 111, 112]⟩, .string ⟨#[107]⟩] 9)).heap.size (W.alloc (.cells #[.string ⟨#[108, 112, 111, 112]⟩, .string ⟨#[107]⟩] 9)) Y) (hgw : g = W.heap.size) (hW : Below w.heap.size w W) (hpv : PV.In W ⟨k0, S0, ql0, nl0, cl0, qh0, nh0, ch0, qz0, nz0, cz0, d0⟩) (hdv : PV.d ⟨k0, S0, ql0, nl0, cl0, qh0, nh0, ch0, qz0, nz0, cz0, d0⟩ = listV (M.drop x)) => (show Calls Tryd.prog 12 #[.agg #[.int .u8 k0, .string S0, .slice ql0 nl0 cl0, .slice qh0 nh0 ch0, .slice qz0 nz0 cz0], .slice (some ⟨g, 0, none⟩) 2 2] Y (DoN (listV (M.drop (x + 1))) ((rowD 2 (M.drop x) []).2) W) from by subst hgw; exact don_to (by show ((M.drop x).drop 1, _) = _; rw [List.drop_drop]; rfl) (on2 2 (by decide) ⟨#[108, 112, 111, 112]⟩ ⟨#[107]⟩ (by decide) (by decide) (by decide) ⟨k0, S0, ql0, nl0, cl0, qh0, nh0, ch0, qz0, nz0, cz0, d0⟩ (M.drop x) W Y hY hpv hdv (HG.out W hW) (tame2 (fun s hs => HTm.out s (List.mem_of_mem_drop hs))))))
        obtain ⟨-, -, ra0, ra1, ra2, ra3, ra4⟩ := HV.out.room
        dsimp only at ra0 ra1 ra2 ra3 ra4
        go_wp2_with fail
        clear ra0 ra1 ra2 ra3 ra4
        with_reducible refine (C1.out wr _ _ (Below.refl _ _) rfl HBw.out HV.out.pv HD.out).mono ?_
        rintro e w5 ⟨p2, vr2, rfl, hI, hd, hn, hA, hb⟩
        obtain ⟨k2, S2, ql2, nl2, cl2, qh2, nh2, ch2, qz2, nz2, cz2, d2⟩ := p2
        dsimp only [PV.agg]
        have HV5 := Lib.hid (HV.out.keep hb)
        have HB5 := Lib.hid (HBx.out.trans (hb.mono HBx.out.size))
        have HI5 := Lib.hid hI
        have HD5 := Lib.hid (show PV.d ⟨k2, S2, ql2, nl2, cl2, qh2, nh2, ch2, qz2, nz2, cz2, d2⟩ = _ from hd)
        have HF5 := Lib.hid (show ∀ k, PV.at_ ⟨k2, S2, ql2, nl2, cl2, qh2, nh2, ch2, qz2, nz2, cz2, d2⟩ k → k ≠ g1 from fun k hk => by have : wr.heap.size ≤ k := hn k hk; have := HV.out.lt; omega)
        have HCs := Lib.hid (show (Tryd.prog.info? 26).map (·.size) = some (#[.int .u8 k2, .string S2, .slice ql2 nl2 cl2, .slice qh2 nh2 ch2, .slice qz2 nz2 cz2] : Array Value).size from val_size)
        have HOn := Lib.hid (show (#[.int .u8 k2, .string S2, .slice ql2 nl2 cl2, .slice qh2 nh2 ch2, .slice qz2 nz2 cz2] : Array Value).all (·.oneCell') = true by simp [Value.oneCell'])
        have HV6 := Lib.hid (VB.put HV5.out HI5.out HF5.out)
        have HB6 := Lib.hid (below_setRow HB5.out HL1.out #[.int .u8 k2, .string S2, .slice ql2 nl2 cl2, .slice qh2 nh2 ch2, .slice qz2 nz2 cz2])
        dsimp only at HV6
        clear hI hd hn hA hb
        go_wp2_with (with_reducible refine wpList_store_row rfl 26 (.tmp 11) (.tmp 78) rfl g1 #[.int .u8 k2, .string S2, .slice ql2 nl2 cl2, .slice qh2 nh2 ch2, .slice qz2 nz2 cz2] rfl rfl 26 _ HV5.out.hp HCs.out rfl HOn.out ?_)
        go_roundw
        case rel => exact ⟨x + 1, ⟨k2, S2, ql2, nl2, cl2, qh2, nh2, ch2, qz2, nz2, cz2, d2⟩, by omega, by go_num, HD5, HV6, HB6⟩
        case measure => simp [intOf]; omega
      · obtain rfl : x = ka := by omega
        have t1 : decide ((x : Int) < (x : Int)) = false := decide_eq_false (by omega)
        have HDs := Lib.hid (show PV.d ⟨k0, S0, ql0, nl0, cl0, qh0, nh0, ch0, qz0, nz0, cz0, d0⟩ = listV ((M.take (m - 0)).drop x) by rw [Nat.sub_zero, List.take_of_length_le (by rw [HLn.out]; exact Nat.le_refl _)]; exact HD.out)
        clear HD HKa HKb z1 z2 z3 z4
        go_wp2_with fail
        go_loopw [16] (fun i wr => ∃ (y : Nat) (p : PV), y ≤ kb ∧ i = .int .i64 (y : Int) ∧ Hid (p.d = listV ((M.take (m - y)).drop x)) ∧ Hid (VB wr g1 p) ∧ Hid (Below w1.heap.size w1 wr)) (fun i _ => kb - (intOf i).toNat)
        case atStart => exact ⟨0, ⟨k0, S0, ql0, nl0, cl0, qh0, nh0, ch0, qz0, nz0, cz0, d0⟩, Nat.zero_le _, rfl, HDs, HV, HBx⟩
        case round =>
          clear HV HBx HDs HBw hlt t1
          obtain ⟨y, p, hy, rfl, HD, HV, HBx⟩ := hrel
          obtain ⟨k3, S3, ql3, nl3, cl3, qh3, nh3, ch3, qz3, nz3, cz3, d3⟩ := p
          have HBw := Lib.hid (HBs.out.trans (HBx.out.mono HBs.out.size))
          by_cases hlt : y < kb
          · have t1 : decide ((y : Int) < (kb : Int)) = true := decide_eq_true (by omega)
            have C1 := Lib.hid (fun (W Y : World) (g : Nat) (hY : Below (W.alloc (.cells #[.string ⟨#[114, 112, 111, 112]⟩, .string ⟨#[107]⟩] 9)).heap.size (W.alloc (.cells #[.string ⟨#[114, 112, 111, 112]⟩, .string ⟨#[107]⟩] 9)) Y) (hgw : g = W.heap.size) (hW : Below w.heap.size w W) (hpv : PV.In W ⟨k3, S3, ql3, nl3, cl3, qh3, nh3, ch3, qz3, nz3, cz3, d3⟩) (hdv : PV.d ⟨k3, S3, ql3, nl3, cl3, qh3, nh3, ch3, qz3, nz3, cz3, d3⟩ = listV ((M.take (m - y)).drop x)) => (show Calls Tryd.prog 12 #[.agg #[.int .u8 k3, .string S3, .slice ql3 nl3 cl3, .slice qh3 nh3 ch3, .slice qz3 nz3 cz3], .slice (some ⟨g, 0, none⟩) 2 2] Y (DoN (listV ((M.take (m - (y + 1))).drop x)) ((rowD 3 ((M.take (m - y)).drop x) []).2) W) from by subst hgw; exact don_to (by show (((M.take (m - y)).drop x).take (((M.take (m - y)).drop x).length - 1), _) = _; rw [take_drop_one M x (m - y) (by rw [HLn.out]; omega) (by omega), Nat.sub_sub]; rfl) (on2 3 (by decide) ⟨#[114, 112, 111, 112]⟩ ⟨#[107]⟩ (by decide) (by decide) (by decide) ⟨k3, S3, ql3, nl3, cl3, qh3, nh3, ch3, qz3, nz3, cz3, d3⟩ ((M.take (m - y)).drop x) W Y hY hpv hdv (HG.out W hW) (tame3 (fun s hs => HTm.out s (List.mem_of_mem_take (List.mem_of_mem_drop hs)))))))
            obtain ⟨-, -, ra0, ra1, ra2, ra3, ra4⟩ := HV.out.room
            dsimp only at ra0 ra1 ra2 ra3 ra4
            go_wp2_with fail
            clear ra0 ra1 ra2 ra3 ra4
            with_reducible refine (C1.out wr _ _ (Below.refl _ _) rfl HBw.out HV.out.pv HD.out).mono ?_
            rintro e w5 ⟨p2, vr2, rfl, hI, hd, hn, hA, hb⟩
            obtain ⟨k2, S2, ql2, nl2, cl2, qh2, nh2, ch2, qz2, nz2, cz2, d2⟩ := p2
            dsimp only [PV.agg]
            have HV5 := Lib.hid (HV.out.keep hb)
            have HB5 := Lib.hid (HBx.out.trans (hb.mono HBx.out.size))
            have HI5 := Lib.hid hI
            have HD5 := Lib.hid (show PV.d ⟨k2, S2, ql2, nl2, cl2, qh2, nh2, ch2, qz2, nz2, cz2, d2⟩ = _ from hd)
            have HF5 := Lib.hid (show ∀ k, PV.at_ ⟨k2, S2, ql2, nl2, cl2, qh2, nh2, ch2, qz2, nz2, cz2, d2⟩ k → k ≠ g1 from fun k hk => by have : wr.heap.size ≤ k := hn k hk; have := HV.out.lt; omega)
            have HCs := Lib.hid (show (Tryd.prog.info? 26).map (·.size) = some (#[.int .u8 k2, .string S2, .slice ql2 nl2 cl2, .slice qh2 nh2 ch2, .slice qz2 nz2 cz2] : Array Value).size from val_size)
            have HOn := Lib.hid (show (#[.int .u8 k2, .string S2, .slice ql2 nl2 cl2, .slice qh2 nh2 ch2, .slice qz2 nz2 cz2] : Array Value).all (·.oneCell') = true by simp [Value.oneCell'])
            have HV6 := Lib.hid (VB.put HV5.out HI5.out HF5.out)
            have HB6 := Lib.hid (below_setRow HB5.out HL1.out #[.int .u8 k2, .string S2, .slice ql2 nl2 cl2, .slice qh2 nh2 ch2, .slice qz2 nz2 cz2])
            dsimp only at HV6
            clear hI hd hn hA hb
            go_wp2_with (with_reducible refine wpList_store_row rfl 26 (.tmp 11) (.tmp 89) rfl g1 #[.int .u8 k2, .string S2, .slice ql2 nl2 cl2, .slice qh2 nh2 ch2, .slice qz2 nz2 cz2] rfl rfl 26 _ HV5.out.hp HCs.out rfl HOn.out ?_)
            go_roundw
            case rel => exact ⟨y + 1, ⟨k2, S2, ql2, nl2, cl2, qh2, nh2, ch2, qz2, nz2, cz2, d2⟩, by omega, by go_num, HD5, HV6, HB6⟩
            case measure => simp [intOf]; omega
          · obtain rfl : y = kb := by omega
            have t1 : decide ((y : Int) < (y : Int)) = false := decide_eq_false (by omega)
            obtain ⟨X, hX⟩ : ∃ X, X = (M.take (m - y)).drop x := ⟨_, rfl⟩
            have HXl := Lib.hid (show X.length = m - y - x by rw [hX, List.length_drop, List.length_take, HLn.out]; omega)
            have HXf := Lib.hid (show X.flatten.length ≤ 1048576 by rw [hX]; exact Nat.le_trans (flat_part M x (m - y)) HFl.out)
            have HXs := Lib.hid (fun W (hW : Below w1.heap.size w1 W) => (show StrT.Ss W (StrT.partAt q c x) X by rw [hX]; exact StrT.Ss.drop (((HS1.out.keep hW).ss).take (m - y)) x (by rw [List.length_take, HLn.out]; omega) c (by rw [List.length_take, HLn.out]; omega)))
            rw [← hX] at HD
            clear hX
            obtain ⟨NT, HNT⟩ : ∃ NR, Hid ((texts X).length = NR) := ⟨_, Lib.hid rfl⟩
            obtain ⟨XT, HXT⟩ : ∃ XR : ByteArray, Hid (XR.data.toList = texts X) := ⟨⟨(texts X).toArray⟩, Lib.hid rfl⟩
            have C1 := Lib.hid (fun (W Y : World) (g : Nat) (hY : Below (W.alloc (.cells #[.string ⟨#[108, 114, 97, 110, 103, 101]⟩, .string ⟨#[107]⟩, .string ⟨#[48]⟩, .string ⟨#[45, 49]⟩] 9)).heap.size (W.alloc (.cells #[.string ⟨#[108, 114, 97, 110, 103, 101]⟩, .string ⟨#[107]⟩, .string ⟨#[48]⟩, .string ⟨#[45, 49]⟩] 9)) Y) (hgw : g = W.heap.size) (hW : Below w.heap.size w W) (hpv : PV.In W ⟨k3, S3, ql3, nl3, cl3, qh3, nh3, ch3, qz3, nz3, cz3, d3⟩) (hdv : PV.d ⟨k3, S3, ql3, nl3, cl3, qh3, nh3, ch3, qz3, nz3, cz3, d3⟩ = listV (X)) => (show Calls Tryd.prog 12 #[.agg #[.int .u8 k3, .string S3, .slice ql3 nl3 cl3, .slice qh3 nh3 ch3, .slice qz3 nz3 cz3], .slice (some ⟨g, 0, none⟩) 4 4] Y (DoN (listV (X)) (texts X) W) from by subst hgw; exact don_to (range_is (part_all X (by have := HXl.out; omega))) (on4 5 (by decide) ⟨#[108, 114, 97, 110, 103, 101]⟩ ⟨#[107]⟩ ⟨#[48]⟩ ⟨#[45, 49]⟩ (by decide) (by decide) (by decide) ⟨k3, S3, ql3, nl3, cl3, qh3, nh3, ch3, qz3, nz3, cz3, d3⟩ (X) W Y hY hpv hdv (HG.out W hW) (tame5 (by decide) (by have := HXl.out; omega) HXf.out (by decide) (by decide)))))
            obtain ⟨-, -, ra0, ra1, ra2, ra3, ra4⟩ := HV.out.room
            dsimp only at ra0 ra1 ra2 ra3 ra4
            go_wp2_with fail
            clear ra0 ra1 ra2 ra3 ra4
            with_reducible refine (C1.out wr _ _ (Below.refl _ _) rfl HBw.out HV.out.pv HD.out).mono ?_
            rintro e w5 ⟨p4, vr4, rfl, hI, hd, hn, hA, hb⟩
            obtain ⟨k4, S4, ql4, nl4, cl4, qh4, nh4, ch4, qz4, nz4, cz4, d4⟩ := p4
            dsimp only [PV.agg]
            obtain ⟨qr4, cr4, rfl, hv4⟩ := ans_text hA NT HNT.out XT HXT.out
            have hbn := hb.trans ((Kit.below1 w5 (.cells #[.int .u8 k4, .string S4, .slice ql4 nl4 cl4, .slice qh4 nh4 ch4, .slice qz4 nz4 cz4] 26)).mono hb.size)
            have HV := Lib.hid (HV.out.keep hbn)
            have HBw := Lib.hid (HBw.out.trans (hbn.mono HBw.out.size))
            have HBx := Lib.hid (HBx.out.trans (hbn.mono HBx.out.size))
            have HV4 := Lib.hid (show VB _ w5.heap.size ⟨k4, S4, ql4, nl4, cl4, qh4, nh4, ch4, qz4, nz4, cz4, d4⟩ from VB.new hI)
            have HD4 := Lib.hid (show PV.d ⟨k4, S4, ql4, nl4, cl4, qh4, nh4, ch4, qz4, nz4, cz4, d4⟩ = _ from hd)
            have hbx := Kit.below1 w5 (.cells #[.int .u8 k4, .string S4, .slice ql4 nl4 cl4, .slice qh4 nh4 ch4, .slice qz4 nz4 cz4] 26)
            have HC4 := Lib.hid (fun W hW => hv4 W (hbx.trans (Below.mono hW hbx.size)))
            clear hbx
            have HL4 := Lib.hid (show wr.heap.size ≤ w5.heap.size from Below.size hb)
            clear hI hd hn hA hb hbn hv4
            go_upto_region 18 with fail
            generalize hgg : w5.heap.size = g4 at HV4 HL4 ⊢
            clear hgg
            generalize w5.alloc (.cells #[.int .u8 k4, .string S4, .slice ql4 nl4 cl4, .slice qh4 nh4 ch4, .slice qz4 nz4 cz4] 26) = w6 at HV4 HV HBw HBx HC4 ⊢
            have hl : ∀ W, Below w6.heap.size w6 W → W.cell? ⟨g1, 0, none⟩ = some (.int .u8 k3) := fun W hW => (HV.out.keep hW).room.c0
            have hc := HC4.out
            have s1 : ∀ W, (Instr.slice 22 (.slice q m c) (some (.int .i64 (x : Int))) (some (.int .i64 ((m : Int) - (y : Int)))) none).run Tryd.prog W = .ok (.slice (StrT.partAt q c x) (m - y - x) (c - x)) W := fun W => by
              rw [show (m : Int) - (y : Int) = ((m - y : Nat) : Int) by omega]
              exact sl_lh q m c x (m - y) (by omega) (by omega) W
            have A1 := Lib.hid (fun W (h : Below w6.heap.size w6 W) => (show Calls Tryd.prog 17 #[.slice (StrT.partAt q c x) (m - y - x) (c - x)] W (Said w6 W NT XT) from (rtexts_sum _ X _ _ W HXl.out (HXs.out _ (HBx.out.trans (h.mono HBx.out.size))) (by omega) HXf.out).mono (fun e w' hh => said_of hh h NT HNT.out XT HXT.out)))
            generalize StrT.partAt q c x = px at s1 A1
            generalize c - x = cx at s1 A1
            have tt : k3 = 0 ∧ ((x : Int) + (y : Int) == (m : Int)) = true ∨ k3 = 2 ∧ ((x : Int) + (y : Int) == (m : Int)) = false := by
              rcases kk_list (p := ⟨k3, S3, ql3, nl3, cl3, qh3, nh3, ch3, qz3, nz3, cz3, d3⟩) HV.out.pv HD.out with ⟨h1, h2⟩ | ⟨h1, h2⟩
              · exact Or.inl ⟨h2, by rw [beq_iff_eq]; have := HXl.out; omega⟩
              · exact Or.inr ⟨h2, by rw [beq_eq_false_iff_ne]; have := HXl.out; omega⟩
            have hw1 : -4096 ≤ (m : Int) - (y : Int) ∧ (m : Int) - (y : Int) ≤ 4096 := by omega
            have hw2 : -4096 ≤ (x : Int) + (y : Int) ∧ (x : Int) + (y : Int) ≤ 4096 := by omega
            generalize m - y - x = nx at s1 A1
            clear HV HD HC4 HD4 HV4 HL4 C1 HNT HXT HXl HXf HXs HBx hlt t1 hmin hnz hcap a0 a1 b0 b1 sl hka2 hkb2 hx hy tz hmc
            rcases tt with ⟨rfl, e1⟩ | ⟨rfl, e1⟩
            all_goals
              obtain ⟨w1a, w1b⟩ := num_in (z := (m : Int) - (y : Int)) hw1
              obtain ⟨w2a, w2b⟩ := num_in (z := (x : Int) + (y : Int)) hw2
              clear hw1 hw2
              refine wp_region_held_drew (S := fun W => Below w6.heap.size w6 W ∧ Below w6.heap.size w6 W) (by kernel_rfl) ?_ (fun hHeld => ?_)
              · exact ⟨(Below.refl _ _).drew, (Below.refl _ _).drew⟩
              refine wpAnyH_take (i := 0) (v := ?_) rfl (by kernel_rfl) (by kernel_rfl) (by kernel_rfl) (fun _ _ _ h => h) (Or.inl ⟨by rfl, ?_⟩) (by assumption) ?_
              rotate_left
              · intro W0 hSw; obtain ⟨hSa, hSb⟩ := hSw; go_simp; all_goals (with_reducible rfl)
              try simp only [Act.put, List.getElem_toArray, List.getElem_cons_zero, List.setIfInBounds_toArray, List.set_cons_zero, List.set_cons_succ]
              refine wpAnyH_take (i := 1) (v := ?_) rfl (by kernel_rfl) (by kernel_rfl) (by kernel_rfl) (fun _ _ _ h => h) (Or.inl ⟨by rfl, ?_⟩) (by assumption) ?_
              rotate_left
              · intro W0 hSw; obtain ⟨hSa, hSb⟩ := hSw; go_simp; all_goals (with_reducible rfl)
              try simp only [Act.put, List.getElem_toArray, List.getElem_cons_succ, List.getElem_cons_zero, List.setIfInBounds_toArray, List.set_cons_zero, List.set_cons_succ]
              refine wpAnyH_take (i := 2) (v := ?_) rfl (by kernel_rfl) (by kernel_rfl) (by kernel_rfl) (fun _ _ _ h => h) (Or.inl ⟨by rfl, ?_⟩) (by assumption) ?_
              rotate_left
              · intro W0 hSw; obtain ⟨hSa, hSb⟩ := hSw; go_simp; all_goals (with_reducible rfl)
              try simp only [Act.put, List.getElem_toArray, List.getElem_cons_succ, List.getElem_cons_zero, List.setIfInBounds_toArray, List.set_cons_zero, List.set_cons_succ]
              refine wpAnyH_take (i := 3) (v := ?_) rfl (by kernel_rfl) (by kernel_rfl) (by kernel_rfl) (fun _ _ _ h => h) (Or.inl ⟨by rfl, ?_⟩) (by assumption) ?_
              rotate_left
              · intro W0 hSw; obtain ⟨hSa, hSb⟩ := hSw; go_simp; all_goals (with_reducible rfl)
              try simp only [Act.put, List.getElem_toArray, List.getElem_cons_succ, List.getElem_cons_zero, List.setIfInBounds_toArray, List.set_cons_zero, List.set_cons_succ]
              refine wpAnyH_take (i := 4) (v := ?_) rfl (by kernel_rfl) (by kernel_rfl) (by kernel_rfl) (fun _ _ _ h => h) (Or.inl ⟨by rfl, ?_⟩) (by assumption) ?_
              rotate_left
              · intro W0 hSw; obtain ⟨hSa, hSb⟩ := hSw; go_simp; all_goals (with_reducible rfl)
              try simp only [Act.put, List.getElem_toArray, List.getElem_cons_succ, List.getElem_cons_zero, List.setIfInBounds_toArray, List.set_cons_zero, List.set_cons_succ]
              refine wpAnyH_take (i := 5) (v := ?_) rfl (by kernel_rfl) (by kernel_rfl) (by kernel_rfl) (fun _ _ _ h => h) (Or.inl ⟨by rfl, ?_⟩) (by assumption) ?_
              rotate_left
              · intro W0 hSw; obtain ⟨hSa, hSb⟩ := hSw; go_simp; all_goals (with_reducible rfl)
              try simp only [Act.put, List.getElem_toArray, List.getElem_cons_succ, List.getElem_cons_zero, List.setIfInBounds_toArray, List.set_cons_zero, List.set_cons_succ]
              refine wpAnyH_take (i := 6) (v := ?_) rfl (by kernel_rfl) (by kernel_rfl) (by kernel_rfl) (fun _ _ _ h => h) (Or.inl ⟨by rfl, ?_⟩) (by assumption) ?_
              rotate_left
              · intro W0 hSw; obtain ⟨hSa, hSb⟩ := hSw; go_simp; all_goals (with_reducible rfl)
              try simp only [Act.put, List.getElem_toArray, List.getElem_cons_succ, List.getElem_cons_zero, List.setIfInBounds_toArray, List.set_cons_zero, List.set_cons_succ]
              refine wpAnyH_take (i := 7) (v := ?_) rfl (by kernel_rfl) (by kernel_rfl) (by kernel_rfl) (fun _ _ _ h => h) (Or.inl ⟨by rfl, ?_⟩) (by assumption) ?_
              rotate_left
              · intro W0 hSw; obtain ⟨hSa, hSb⟩ := hSw; go_simp; all_goals (with_reducible rfl)
              try simp only [Act.put, List.getElem_toArray, List.getElem_cons_succ, List.getElem_cons_zero, List.setIfInBounds_toArray, List.set_cons_zero, List.set_cons_succ]
              refine wpAnyH_take (i := 8) (v := ?_) rfl (by kernel_rfl) (by kernel_rfl) (by kernel_rfl) (fun _ _ _ h => h) (Or.inl ⟨by rfl, ?_⟩) (by assumption) ?_
              rotate_left
              · intro W0 hSw; obtain ⟨hSa, hSb⟩ := hSw; go_simp; all_goals (with_reducible rfl)
              try simp only [Act.put, List.getElem_toArray, List.getElem_cons_succ, List.getElem_cons_zero, List.setIfInBounds_toArray, List.set_cons_zero, List.set_cons_succ]
              refine wpAnyH_take (i := 9) (v := ?_) rfl (by kernel_rfl) (by kernel_rfl) (by kernel_rfl) (fun _ _ _ h => h) (Or.inl ⟨by rfl, ?_⟩) (by assumption) ?_
              rotate_left
              · intro W0 hSw; obtain ⟨hSa, hSb⟩ := hSw; go_simp; all_goals (with_reducible rfl)
              try simp only [Act.put, List.getElem_toArray, List.getElem_cons_succ, List.getElem_cons_zero, List.setIfInBounds_toArray, List.set_cons_zero, List.set_cons_succ]
              refine wpAnyH_take (i := 10) (v := ?_) rfl (by kernel_rfl) (by kernel_rfl) (by kernel_rfl) (fun _ _ _ h => h) (Or.inl ⟨by rfl, ?_⟩) (by assumption) ?_
              rotate_left
              · intro W0 hSw; obtain ⟨hSa, hSb⟩ := hSw; go_simp; all_goals (with_reducible rfl)
              try simp only [Act.put, List.getElem_toArray, List.getElem_cons_succ, List.getElem_cons_zero, List.setIfInBounds_toArray, List.set_cons_zero, List.set_cons_succ]
              refine wpAnyH_ready (rs := [11]) (by kernel_rfl) (by simp) ?_
              refine AllReadyH.cons rfl (fun K hK => ?_) AllReadyH.nil
              go_simp
              go_wp2_with (go_at_call 17; (refine (A1.out _ hHeld.1).mono ?_); rintro e wA0 ⟨pwA0, cwA0, rfl, vwA0, bwA0, ywA0, zwA0⟩)
              have hC := hHeld.2.trans (ywA0.mono hHeld.2.size)
              refine hK.out _ _ ?_ (fun hHeld2 => ?_)
              · exact ⟨bwA0, hC⟩
              clear hK K hHeld hHeld2
              have hHeld : Below w6.heap.size w6 wA0 ∧ Below wA0.heap.size wA0 wA0 := ⟨bwA0, zwA0⟩
              refine held_mono (S' := fun W => Below w6.heap.size w6 W ∧ Below wA0.heap.size wA0 W) (fun W hW => ⟨hW.1, hC.trans (hW.2.mono hC.size)⟩) _ _ _ _ ?_
              clear hC
              refine wpAnyH_take (i := 12) (v := ?_) rfl (by kernel_rfl) (by kernel_rfl) (by kernel_rfl) (fun _ _ _ h => h) (Or.inl ⟨by rfl, ?_⟩) (by assumption) ?_
              rotate_left
              · intro W0 hSw; obtain ⟨hSa, hSb⟩ := hSw; go_simp; all_goals (with_reducible rfl)
              try simp only [Act.put, List.getElem_toArray, List.getElem_cons_succ, List.getElem_cons_zero, List.setIfInBounds_toArray, List.set_cons_zero, List.set_cons_succ]
              refine wpAnyH_take (i := 13) (v := ?_) rfl (by kernel_rfl) (by kernel_rfl) (by kernel_rfl) (fun _ _ _ h => h) (Or.inl ⟨by rfl, ?_⟩) (by assumption) ?_
              rotate_left
              · intro W0 hSw; obtain ⟨hSa, hSb⟩ := hSw; go_simp; all_goals (with_reducible rfl)
              try simp only [Act.put, List.getElem_toArray, List.getElem_cons_succ, List.getElem_cons_zero, List.setIfInBounds_toArray, List.set_cons_zero, List.set_cons_succ]
              refine wpAnyH_take (i := 14) (v := ?_) rfl (by kernel_rfl) (by kernel_rfl) (by kernel_rfl) (fun _ _ _ h => h) (Or.inl ⟨by rfl, ?_⟩) (by assumption) ?_
              rotate_left
              · intro W0 hSw; obtain ⟨hSa, hSb⟩ := hSw; go_simp; all_goals (with_reducible rfl)
              try simp only [Act.put, List.getElem_toArray, List.getElem_cons_succ, List.getElem_cons_zero, List.setIfInBounds_toArray, List.set_cons_zero, List.set_cons_succ]
              refine wpAnyH_take (i := 15) (v := ?_) rfl (by kernel_rfl) (by kernel_rfl) (by kernel_rfl) (fun _ _ _ h => h) (Or.inl ⟨by rfl, ?_⟩) (by assumption) ?_
              rotate_left
              · intro W0 hSw; obtain ⟨hSa, hSb⟩ := hSw; go_simp; all_goals (with_reducible rfl)
              try simp only [Act.put, List.getElem_toArray, List.getElem_cons_succ, List.getElem_cons_zero, List.setIfInBounds_toArray, List.set_cons_zero, List.set_cons_succ]
              refine wpAnyH_take (i := 16) (v := ?_) rfl (by kernel_rfl) (by kernel_rfl) (by kernel_rfl) (fun _ _ _ h => h) (Or.inl ⟨by rfl, ?_⟩) (by assumption) ?_
              rotate_left
              · intro W0 hSw; obtain ⟨hSa, hSb⟩ := hSw; go_simp; all_goals (with_reducible rfl)
              try simp only [Act.put, List.getElem_toArray, List.getElem_cons_succ, List.getElem_cons_zero, List.setIfInBounds_toArray, List.set_cons_zero, List.set_cons_succ]
              refine wpAnyH_take (i := 17) (v := ?_) rfl (by kernel_rfl) (by kernel_rfl) (by kernel_rfl) (fun _ _ _ h => h) (Or.inl ⟨by rfl, ?_⟩) (by assumption) ?_
              rotate_left
              · intro W0 hSw; obtain ⟨hSa, hSb⟩ := hSw; go_simp; all_goals (with_reducible rfl)
              try simp only [Act.put, List.getElem_toArray, List.getElem_cons_succ, List.getElem_cons_zero, List.setIfInBounds_toArray, List.set_cons_zero, List.set_cons_succ]
              refine wpAnyH_take (i := 18) (v := ?_) rfl (by kernel_rfl) (by kernel_rfl) (by kernel_rfl) (fun _ _ _ h => h) (Or.inl ⟨by rfl, ?_⟩) (by assumption) ?_
              rotate_left
              · intro W0 hSw; obtain ⟨hSa, hSb⟩ := hSw; go_simp; all_goals (with_reducible rfl)
              try simp only [Act.put, List.getElem_toArray, List.getElem_cons_succ, List.getElem_cons_zero, List.setIfInBounds_toArray, List.set_cons_zero, List.set_cons_succ]
              refine wpAnyH_take (i := 19) (v := ?_) rfl (by kernel_rfl) (by kernel_rfl) (by kernel_rfl) (fun _ _ _ h => h) (Or.inl ⟨by rfl, ?_⟩) (by assumption) ?_
              rotate_left
              · intro W0 hSw; obtain ⟨hSa, hSb⟩ := hSw; go_simp; all_goals (with_reducible rfl)
              try simp only [Act.put, List.getElem_toArray, List.getElem_cons_succ, List.getElem_cons_zero, List.setIfInBounds_toArray, List.set_cons_zero, List.set_cons_succ]
              refine wpAnyH_take (i := 20) (v := ?_) rfl (by kernel_rfl) (by kernel_rfl) (by kernel_rfl) (fun _ _ _ h => h) (Or.inl ⟨by rfl, ?_⟩) (by assumption) ?_
              rotate_left
              · intro W0 hSw; obtain ⟨hSa, hSb⟩ := hSw; go_simp; all_goals (with_reducible rfl)
              try simp only [Act.put, List.getElem_toArray, List.getElem_cons_succ, List.getElem_cons_zero, List.setIfInBounds_toArray, List.set_cons_zero, List.set_cons_succ]
              refine wpAnyH_take (i := 21) (v := ?_) rfl (by kernel_rfl) (by kernel_rfl) (by kernel_rfl) (fun _ _ _ h => h) (Or.inl ⟨by rfl, ?_⟩) (by assumption) ?_
              rotate_left
              · intro W0 hSw; obtain ⟨hSa, hSb⟩ := hSw; go_simp; all_goals (with_reducible rfl)
              try simp only [Act.put, List.getElem_toArray, List.getElem_cons_succ, List.getElem_cons_zero, List.setIfInBounds_toArray, List.set_cons_zero, List.set_cons_succ]
              refine wpAnyH_take (i := 22) (v := ?_) rfl (by kernel_rfl) (by kernel_rfl) (by kernel_rfl) (fun _ _ _ h => h) (Or.inl ⟨by rfl, ?_⟩) (by assumption) ?_
              rotate_left
              · intro W0 hSw; obtain ⟨hSa, hSb⟩ := hSw; go_simp; all_goals (with_reducible rfl)
              try simp only [Act.put, List.getElem_toArray, List.getElem_cons_succ, List.getElem_cons_zero, List.setIfInBounds_toArray, List.set_cons_zero, List.set_cons_succ]
              refine wpAnyH_take (i := 23) (v := ?_) rfl (by kernel_rfl) (by kernel_rfl) (by kernel_rfl) (fun _ _ _ h => h) (Or.inl ⟨by rfl, ?_⟩) (by assumption) ?_
              rotate_left
              · intro W0 hSw; obtain ⟨hSa, hSb⟩ := hSw; go_simp; all_goals (with_reducible rfl)
              try simp only [Act.put, List.getElem_toArray, List.getElem_cons_succ, List.getElem_cons_zero, List.setIfInBounds_toArray, List.set_cons_zero, List.set_cons_succ]
              refine wpAnyH_take (i := 24) (v := ?_) rfl (by kernel_rfl) (by kernel_rfl) (by kernel_rfl) (fun _ _ _ h => h) (Or.inl ⟨by rfl, ?_⟩) (by assumption) ?_
              rotate_left
              · intro W0 hSw; obtain ⟨hSa, hSb⟩ := hSw; go_simp; all_goals (with_reducible rfl)
              try simp only [Act.put, List.getElem_toArray, List.getElem_cons_succ, List.getElem_cons_zero, List.setIfInBounds_toArray, List.set_cons_zero, List.set_cons_succ]
              refine wpAnyH_take (i := 25) (v := ?_) rfl (by kernel_rfl) (by kernel_rfl) (by kernel_rfl) (fun _ _ _ h => h) (Or.inl ⟨by rfl, ?_⟩) (by assumption) ?_
              rotate_left
              · intro W0 hSw; obtain ⟨hSa, hSb⟩ := hSw; go_simp; all_goals (with_reducible rfl)
              try simp only [Act.put, List.getElem_toArray, List.getElem_cons_succ, List.getElem_cons_zero, List.setIfInBounds_toArray, List.set_cons_zero, List.set_cons_succ]
              refine wpAnyH_take (i := 26) (v := ?_) rfl (by kernel_rfl) (by kernel_rfl) (by kernel_rfl) (fun _ _ _ h => h) (Or.inl ⟨by rfl, ?_⟩) (by assumption) ?_
              rotate_left
              · intro W0 hSw; obtain ⟨hSa, hSb⟩ := hSw; go_simp; all_goals (with_reducible rfl)
              try simp only [Act.put, List.getElem_toArray, List.getElem_cons_succ, List.getElem_cons_zero, List.setIfInBounds_toArray, List.set_cons_zero, List.set_cons_succ]
              refine wpAnyH_take (i := 27) (v := ?_) rfl (by kernel_rfl) (by kernel_rfl) (by kernel_rfl) (fun _ _ _ h => h) (Or.inl ⟨by rfl, ?_⟩) (by assumption) ?_
              rotate_left
              · intro W0 hSw; obtain ⟨hSa, hSb⟩ := hSw; go_simp; all_goals (with_reducible rfl)
              try simp only [Act.put, List.getElem_toArray, List.getElem_cons_succ, List.getElem_cons_zero, List.setIfInBounds_toArray, List.set_cons_zero, List.set_cons_succ]
              refine wpAnyH_done (by kernel_rfl) ?_ _
              go_wp2_with fail
              go_ret
              exact ⟨rfl, HBw.out.trans (hHeld.1.mono HBw.out.size)⟩

end Go.Proofs.YteadjcligmmkmaaDoor.listsLeaves
