/-
  ListsRanges: a list is told whole from 0 to -1; part by part, wherever it is cut; what is told is not taken out.
-/
import Derived.Test.YteadjcligmmkmaaDoorLisLaw
import Derived.Test.YteadjcligmmkmaaDoorRefTexts
import Derived.Test.YteadjcligmmkmaaDoorRefVal3
import Derived.Deep.QuietTactic
import Derived.Deep.DeepCutAuto
import Derived.BigQuiet
import Derived.StillTailTactics
import Derived.Deep.RegionLaw
namespace Go.Proofs.YteadjcligmmkmaaDoor.listsRanges
open Go.RowKit Kit StrT RowG BOrd ValT StoT ReplyT ReplyMath ValM BytesIn DoT Low MapT LstT LisT NumL NumW NumMath ReplyM LisM SaidT RefR DoV LisL
set_option linter.unusedVariables false
set_option maxRecDepth 100000
-- ASKS: NumL.Gd
-- UPTO


theorem same_self (d : V) : sameB d d = true := decide_eq_true rfl
theorem push_to (N : List (List UInt8)) : rowD 1 [] N = (N, (rowD 1 [] N).2) := by
  show ([] ++ N, _) = _
  rw [List.nil_append]
  rfl
/-- What is told up to one place less: of the first place, the whole. -/
def upX (M : List (List UInt8)) (k : Nat) : List (List UInt8) := if k = 0 then M else M.take k
theorem part_up (M : List (List UInt8)) (k : Nat) (hk : k ≤ M.length) (hM : M.length ≤ 1048576) (a b : List UInt8) (ha : a = [48]) (hb : b = Lib.itoa ((k : Int) - 1)) : partB M a b = true ∧ partL M a b = upX M k := by
  subst ha hb
  unfold upX
  split
  · rename_i h
    subst h
    have h := part_all M hM
    rw [show Lib.itoa (((0 : Nat) : Int) - 1) = [45, 49] by decide +kernel]
    exact h
  · have h := part_to M k (by omega) hk hM
    rw [show Lib.itoa 0 = [48] by decide +kernel] at h
    exact h
theorem part_on (M : List (List UInt8)) (k : Nat) (hk : k ≤ M.length) (hM : M.length ≤ 1048576) (a b : List UInt8) (ha : a = Lib.itoa (k : Int)) (hb : b = [45, 49]) : partB M a b = true ∧ partL M a b = M.drop k := by
  subst ha hb
  have h := part_from M k hk hM
  rw [show Lib.itoa (-1) = [45, 49] by decide +kernel] at h
  exact h
theorem rtexts_nil (w : World) : Calls Tryd.prog 17 #[.slice none 0 0] w (Gives (texts []) w) :=
  rtexts_sum none [] 0 0 w rfl (fun h => absurd h (by simp)) (by omega) (by simp)
/-- The row as a list, laid behind. -/
structure Laid (w1 wx : World) (g : Nat) (M : List (List UInt8)) (p : PV) : Prop where
  d : p.d = listV M
  v : VB wx g p
  b : Below w1.heap.size w1 wx

set_option maxHeartbeats 16000000 in
theorem walk (q : Option Addr) (L : List (List UInt8)) (n c : Nat) (a : Int) (w : World) (hL : L.length = n) (h : StrT.Ss w q L) (hz : ∀ s ∈ L, s.length ≤ 140737488351232) (hcap : n ≤ c) (hcm : c ≤ 9223372036854775807) (hnil : q = none → c = 0) (hup : L.flatten.length + L.length ≤ 1048576) (a0 : 0 ≤ a) (a1 : a ≤ 255) (hg : Gd w) :
    Calls Tryd.prog 5 #[.slice q n c, .int .u8 a] w fun e w' => e = .returned (.bool true) ∧ Below w.heap.size w w' := by
  have HG := Lib.hid (fun W (h : Below w.heap.size w W) => hg.keep h)
  have C0 := Lib.hid (shown_any w hg)
  obtain ⟨m, hm⟩ : ∃ m : Nat, m = min n 12 := ⟨_, rfl⟩
  have hm12 : m ≤ 12 := by omega
  have HM0 := Lib.hid (show SR w q m c (L.take m) from ⟨by rw [List.length_take, hL]; omega, by omega, hcm, hnil, h.take m⟩)
  have HFl := Lib.hid (show (L.take m).flatten.length ≤ 1048576 by have := flat_part L 0 m; rw [List.drop_zero] at this; omega)
  have hnz : (n : Int) ≤ 9223372036854775807 := by omega
  have sl12 : ∀ W, (Instr.slice 22 (.slice q n c) none (some (.int .i64 12)) none).run Tryd.prog W = .ok (.slice q 12 c) W ∨ ¬ 12 ≤ c := fun W => by
    by_cases h : 12 ≤ c
    · exact Or.inl (sl_take q n c 12 h W)
    · exact Or.inr h
  have hmw : (12 < n ∧ m = 12) ∨ (n ≤ 12 ∧ m = n) := by omega
  have hmc : m ≤ c := by omega
  clear h hz hg hL hup hcm
  generalize L.take m = M at HM0 HFl
  have HLn := Lib.hid HM0.out.ln
  have HNl := Lib.hid hnil
  clear hnil hm
  obtain ⟨ka, hka⟩ : ∃ ka : Nat, (ka : Int) = a % ((m : Int) + 1) := ⟨(a % ((m : Int) + 1)).toNat, Int.toNat_of_nonneg (Int.emod_nonneg _ (by omega))⟩
  have hka1 : (ka : Int) < (m : Int) + 1 := by have := Int.emod_lt_of_pos a (show 0 < (m : Int) + 1 by omega); omega
  have hkm : ka ≤ m := by omega
  have HKa := Lib.hid hka.symm
  clear hka hka1
  have z1 : ((m : Int) + 1 == 0) = false := by rw [beq_eq_false_iff_ne]; omega
  have z3 : ¬ (m : Int) + 1 = 0 := by omega
  obtain ⟨F1, hF1⟩ : ∃ F : ByteArray, F = ⟨(Lib.itoa (ka : Int)).toArray⟩ := ⟨_, rfl⟩
  have hF1z : F1.size ≤ 20 := by rw [hF1]; exact text_len _ (by omega) (by omega)
  have HF1 := Lib.hid (show F1.data.toList = Lib.itoa (ka : Int) by rw [hF1])
  have CT1 := Lib.hid (fun W => (show Calls Tryd.prog 16 #[.int .i64 (ka : Int)] W (fun e w' => e = .returned (.string F1) ∧ Below W.heap.size W w') by rw [hF1]; exact Ref01.text_any (ka : Int).natAbs (ka : Int) W (Nat.le_refl _) (by omega) (by omega)))
  obtain ⟨F2, hF2⟩ : ∃ F : ByteArray, F = ⟨(Lib.itoa ((ka : Int) - 1)).toArray⟩ := ⟨_, rfl⟩
  have hF2z : F2.size ≤ 20 := by rw [hF2]; exact text_len _ (by omega) (by omega)
  have HF2 := Lib.hid (show F2.data.toList = Lib.itoa ((ka : Int) - 1) by rw [hF2])
  have CT2 := Lib.hid (fun W => (show Calls Tryd.prog 16 #[.int .i64 (IntKind.i64.wrap ((ka : Int) - 1))] W (fun e w' => e = .returned (.string F2) ∧ Below W.heap.size W w') by rw [(num_in (z := (ka : Int) - 1) (by omega)).1, hF2]; exact Ref01.text_any ((ka : Int) - 1).natAbs ((ka : Int) - 1) W (Nat.le_refl _) (by omega) (by omega)))
  clear hF1 hF2
  go_enter Tryd.func5, Tryd.ntmps5
  go_wp2_with fail
  with_reducible refine C0.out.mono ?_
  rintro e w1 ⟨rfl, hb1⟩
  have HB := Lib.hid hb1
  have HS1 := Lib.hid (HM0.out.keep hb1)
  clear hb1 C0
  go_upto_if 18 with fail
  go_cut [0] (fun v wx => v = .slice q m c ∧ w1 = wx)
  case first =>
    rcases hmw with ⟨h1, h2⟩ | ⟨h1, h2⟩
    · have tb : decide ((12 : Int) < (n : Int)) = true := decide_eq_true (by omega)
      have sl : ∀ W, (Instr.slice 22 (.slice q n c) none (some (.int .i64 12)) none).run Tryd.prog W = .ok (.slice q 12 c) W := fun W => (sl12 W).resolve_right (by omega)
      subst h2
      clear sl12
      go_wp2_with fail
      go_meet
      exact ⟨rfl, rfl⟩
    · have tb : decide ((12 : Int) < (n : Int)) = false := decide_eq_false (by omega)
      subst h2
      clear sl12
      go_wp2_with fail
      go_meet
      exact ⟨rfl, rfl⟩
  case rest =>
  obtain ⟨rfl, rfl⟩ := hcut
  clear hmw sl12
  rename World => w1
  have HV := Lib.hid (VB.new (pv0_in w1))
  dsimp only [pv0] at HV
  have HBx := Lib.hid (Kit.below1 w1 (.cells #[.int .u8 0, .string ⟨#[]⟩, .slice none 0 0, .slice none 0 0, .slice none 0 0] 26))
  go_upto_if 24 with fail
  generalize hg6 : w1.heap.size = g6 at HV ⊢
  have HG6 := Lib.hid (show w1.heap.size ≤ g6 by omega)
  clear hg6
  generalize w1.alloc (.cells #[.int .u8 0, .string ⟨#[]⟩, .slice none 0 0, .slice none 0 0, .slice none 0 0] 26) = w2 at HV HBx ⊢
  go_cut [] (fun wx => ∃ p, Hid (Laid w1 wx g6 M p))
  case first =>
    rcases Nat.eq_zero_or_pos m with h0 | h0
    · subst h0
      obtain rfl : M = [] := List.eq_nil_of_length_eq_zero HLn.out
      have HL := Lib.hid (show Laid w1 w2 g6 [] pv0 from ⟨rfl, HV.out, HBx.out⟩)
      go_wp2_with fail
      go_meet
      exact ⟨pv0, HL⟩
    · have tz : decide ((0 : Int) < (m : Int)) = true := decide_eq_true (by omega)
      obtain ⟨b, off, rfl, hbl, -⟩ := HS1.out.ss (by have := HLn.out; omega)
      obtain ⟨nz, hnz2⟩ : ∃ nz, nz = 2 + m := ⟨_, rfl⟩
      have hnzb : nz ≤ 14 := by omega
      have HNz := Lib.hid hnz2
      have HBw := Lib.hid (HB.out.trans (HBx.out.mono HB.out.size))
      have hba := Kit.below1 w2 (.cells #[.string ⟨#[114, 112, 117, 115, 104]⟩, .string ⟨#[107]⟩] 9)
      have HLt := Lib.hid (lit2 w2 ⟨#[114, 112, 117, 115, 104]⟩ ⟨#[107]⟩)
      have HBl := Lib.hid hba
      have HSa := Lib.hid (rs_ss.2 ((HS1.out.keep HBx.out).keep hba).ss)
      obtain ⟨Z, hZ⟩ : ∃ Z : List (List UInt8), Z = [(⟨#[114, 112, 117, 115, 104]⟩ : ByteArray).data.toList, (⟨#[107]⟩ : ByteArray).data.toList] ++ M := ⟨_, rfl⟩
      have HZl := Lib.hid (show Z.length = nz by rw [hZ, HNz.out]; simp; have := HLn.out; omega)
      have CP := Lib.hid (fun (W Y : World) (qz6 : Option Addr) (cz6 : Nat) (hs : SR W qz6 nz cz6 Z) (hY : Below W.heap.size W Y) (hW : Below w.heap.size w W) => (show Calls Tryd.prog 12 #[.agg #[.int .u8 0, .string ⟨#[]⟩, .slice none 0 0, .slice none 0 0, .slice none 0 0], .slice qz6 nz cz6] Y (DoN (listV M) (rowD 1 [] M).2 Y) from don_to (push_to M) (onR 1 (by decide) pv0 [] ⟨#[114, 112, 117, 115, 104]⟩ ⟨#[107]⟩ M qz6 nz cz6 Y (pv0_in Y) rfl ((HG.out W hW).keep hY) (by rw [HNz.out, HLn.out]) hs.nc (by rw [HNz.out]; show 3 ≤ _; omega) (by have := (hs.keep hY).ss; rw [hZ] at this; exact this) (by decide) (by decide) (tame1 (by have := HLn.out; simp; omega)))))
      have HZ := Lib.hid hZ
      obtain ⟨-, -, a0', a1', a2', a3', a4'⟩ := HV.out.room
      have hr2 := HV.out.keep hba
      obtain ⟨-, -, b0', b1', b2', b3', b4'⟩ := hr2.room
      dsimp only at a0' a1' a2' a3' a4' b0' b1' b2' b3' b4'
      clear hZ hba hr2 hnz2 hbl
      go_wp2_with fail
      go_region_law (first
        | (refine step_append_rs strE (w0 := w2) rfl (.tmp 27) (.tmp 28) rfl (.slice (some ⟨w2.heap.size, 0, none⟩) 2 2) _ rfl (by first | exact HLt.out | exact OwnR.drew HLt.out) (by first | exact HBl.out | exact HBl.out.drew) b off M m c rfl HLn.out (by first | exact HSa.out | exact HSa.out.keep (Below.refl _ _).drew) (by simp; omega) Z HZ.out ?_
           intro v6 w5 ho6 hb6
           obtain ⟨q6, c6, rfl, hs6⟩ := SR.of ho6
           rw [HZl.out] at hs6 ⊢
           have HS6 := Lib.hid hs6
           have HB6 := Lib.hid hb6
           have HV6 := Lib.hid (HV.out.keep hb6)
           obtain ⟨-, -, e0, e1, e2, e3, e4⟩ := HV6.out.room
           dsimp only at e0 e1 e2 e3 e4
           clear hs6 ho6 hb6)
        | (go_simp; (with_reducible refine (CP.out w5 _ q6 c6 HS6.out (by first | exact Below.refl _ _ | exact (Below.refl _ _).drew) (HBw.out.trans (HB6.out.mono HBw.out.size))).mono ?_); rintro e w7 ⟨p1, vr1, rfl, hI, hd, hn, hA, hb⟩; obtain ⟨k1, S1, ql1, nl1, cl1, qh1, nh1, ch1, qz1, nz1, cz1, d1⟩ := p1; dsimp only [PV.agg]
           have hb7 : Below w5.heap.size w5 w7 := by first | exact hb | exact c_dr hb
           have HI5 := Lib.hid hI
           have HD5 := Lib.hid (show d1 = _ from hd)
           have HV7 := Lib.hid (HV6.out.keep hb7)
           have HB7 := Lib.hid (HBx.out.trans ((HB6.out.trans (hb7.mono HB6.out.size)).mono HBx.out.size))
           have HF5 := Lib.hid (show ∀ k, PV.at_ ⟨k1, S1, ql1, nl1, cl1, qh1, nh1, ch1, qz1, nz1, cz1, d1⟩ k → k ≠ g6 from fun k hk => by have : w5.heap.size ≤ k := hn k hk; have := HV6.out.lt; omega)
           obtain ⟨-, -, c0, c1, c2, c3, c4⟩ := HV7.out.room
           dsimp only at c0 c1 c2 c3 c4
           have f0 := HV7.out.room.frz 0
           have f1 := HV7.out.room.frz 1
           have f2 := HV7.out.room.frz 2
           have f3 := HV7.out.room.frz 3
           have f4 := HV7.out.room.frz 4
           clear hI hd hn hA hb hb7))
      all_goals
        have HL := Lib.hid (show Laid w1 _ g6 M ⟨k1, S1, ql1, nl1, cl1, qh1, nh1, ch1, qz1, nz1, cz1, d1⟩ from ⟨HD5.out, VB.five HV7.out HI5.out HF5.out, five_below HB7.out HG6.out (.int .u8 k1) (.string S1) (.slice ql1 nl1 cl1) (.slice qh1 nh1 ch1) (.slice qz1 nz1 cz1)⟩)
        go_wp2_with fail
        go_meet
        exact ⟨_, HL⟩
  case rest =>
  clear HV HBx
  obtain ⟨p, HL⟩ := hcut
  obtain ⟨k0, S0, ql0, nl0, cl0, qh0, nh0, ch0, qz0, nz0, cz0, d0⟩ := p
  rename World => w3
  have HD := Lib.hid HL.out.d
  have HV := Lib.hid HL.out.v
  have HBx := Lib.hid HL.out.b
  have HB1 := HB
  have HB := Lib.hid (HB1.out.trans (HBx.out.mono HB1.out.size))
  clear HL
  go_upto_region 8 with fail
  rw [HKa.out]
  clear HKa z1 z3 HBx HS1 HG6
  have HMn := Lib.hid (show M.length ≤ 1048576 by have := HLn.out; omega)
  have HMk := Lib.hid (show ka ≤ M.length by have := HLn.out; omega)
  obtain ⟨N1, HN1⟩ : ∃ NR, Hid ((texts M).length = NR) := ⟨_, Lib.hid rfl⟩
  obtain ⟨X1, HX1⟩ : ∃ XR : ByteArray, Hid (XR.data.toList = texts M) := ⟨⟨(texts M).toArray⟩, Lib.hid rfl⟩
  obtain ⟨N2, HN2⟩ : ∃ NR, Hid ((texts (M.drop ka)).length = NR) := ⟨_, Lib.hid rfl⟩
  obtain ⟨X2, HX2⟩ : ∃ XR : ByteArray, Hid (XR.data.toList = texts (M.drop ka)) := ⟨⟨(texts (M.drop ka)).toArray⟩, Lib.hid rfl⟩
  obtain ⟨N3, HN3⟩ : ∃ NR, Hid ((texts (M.take ka)).length = NR) := ⟨_, Lib.hid rfl⟩
  obtain ⟨X3, HX3⟩ : ∃ XR : ByteArray, Hid (XR.data.toList = texts (M.take ka)) := ⟨⟨(texts (M.take ka)).toArray⟩, Lib.hid rfl⟩
  obtain ⟨N4, HN4⟩ : ∃ NR, Hid ((texts (upX M ka)).length = NR) := ⟨_, Lib.hid rfl⟩
  obtain ⟨X4, HX4⟩ : ∃ XR : ByteArray, Hid (XR.data.toList = texts (upX M ka)) := ⟨⟨(texts (upX M ka)).toArray⟩, Lib.hid rfl⟩
  have C1 := Lib.hid (fun (W Y : World) (g : Nat) (hY : Below (W.alloc (.cells #[.string ⟨#[108, 114, 97, 110, 103, 101]⟩, .string ⟨#[107]⟩, .string ⟨#[48]⟩, .string ⟨#[45, 49]⟩] 9)).heap.size (W.alloc (.cells #[.string ⟨#[108, 114, 97, 110, 103, 101]⟩, .string ⟨#[107]⟩, .string ⟨#[48]⟩, .string ⟨#[45, 49]⟩] 9)) Y) (hgw : g = W.heap.size) (hW : Below w.heap.size w W) (hpv : PV.In W ⟨k0, S0, ql0, nl0, cl0, qh0, nh0, ch0, qz0, nz0, cz0, d0⟩) (hdv : PV.d ⟨k0, S0, ql0, nl0, cl0, qh0, nh0, ch0, qz0, nz0, cz0, d0⟩ = listV (M)) => (show Calls Tryd.prog 12 #[.agg #[.int .u8 k0, .string S0, .slice ql0 nl0 cl0, .slice qh0 nh0 ch0, .slice qz0 nz0 cz0], .slice (some ⟨g, 0, none⟩) 4 4] Y (DoN (listV (M)) (texts M) W) from by subst hgw; exact don_to (range_is (part_all M HMn.out)) (on4 5 (by decide) ⟨#[108, 114, 97, 110, 103, 101]⟩ ⟨#[107]⟩ ⟨#[48]⟩ ⟨#[45, 49]⟩ (by decide) (by decide) (by decide) ⟨k0, S0, ql0, nl0, cl0, qh0, nh0, ch0, qz0, nz0, cz0, d0⟩ (M) W Y hY hpv hdv (HG.out W hW) (tame5 (by decide) (by have := HLn.out; omega) HFl.out (by decide) (by decide)))))
  obtain ⟨-, -, ra0, ra1, ra2, ra3, ra4⟩ := HV.out.room
  dsimp only at ra0 ra1 ra2 ra3 ra4
  go_wp2_with fail
  clear ra0 ra1 ra2 ra3 ra4
  with_reducible refine (C1.out w3 _ _ (Below.refl _ _) rfl HB.out HV.out.pv HD.out).mono ?_
  rintro e w4 ⟨p8, vr8, rfl, hI, hd, hn, hA, hb⟩
  obtain ⟨k8, S8, ql8, nl8, cl8, qh8, nh8, ch8, qz8, nz8, cz8, d8⟩ := p8
  dsimp only [PV.agg]
  obtain ⟨qr8, cr8, rfl, hv8⟩ := ans_text hA N1 HN1.out X1 HX1.out
  have hbn := hb.trans ((Kit.below1 w4 (.cells #[.int .u8 k8, .string S8, .slice ql8 nl8 cl8, .slice qh8 nh8 ch8, .slice qz8 nz8 cz8] 26)).mono hb.size)
  have HV := Lib.hid (HV.out.keep hbn)
  have HB := Lib.hid (HB.out.trans (hbn.mono HB.out.size))
  have HV8 := Lib.hid (show VB _ w4.heap.size ⟨k8, S8, ql8, nl8, cl8, qh8, nh8, ch8, qz8, nz8, cz8, d8⟩ from VB.new hI)
  have HD8 := Lib.hid (show PV.d ⟨k8, S8, ql8, nl8, cl8, qh8, nh8, ch8, qz8, nz8, cz8, d8⟩ = _ from hd)
  have hbx := Kit.below1 w4 (.cells #[.int .u8 k8, .string S8, .slice ql8 nl8 cl8, .slice qh8 nh8 ch8, .slice qz8 nz8 cz8] 26)
  have HC8 := Lib.hid (fun W hW => hv8 W (hbx.trans (Below.mono hW hbx.size)))
  clear hbx
  have HL8 := Lib.hid (show w3.heap.size ≤ w4.heap.size from Below.size hb)
  clear hI hd hn hA hb hbn hv8
  go_upto_region 9 with fail
  generalize hgg : w4.heap.size = g8 at HV8 HL8 ⊢
  clear hgg
  generalize w4.alloc (.cells #[.int .u8 k8, .string S8, .slice ql8 nl8 cl8, .slice qh8 nh8 ch8, .slice qz8 nz8 cz8] 26) = w5 at HV8 HV HB HC8 ⊢
  clear C1 HL8
  have CD := Lib.hid (fun (Y : World) (g : Nat) (hB : Below w.heap.size w Y) (hpv : PV.In Y ⟨k0, S0, ql0, nl0, cl0, qh0, nh0, ch0, qz0, nz0, cz0, d0⟩) (hss : StrT.Ss Y (some ⟨g, 0, none⟩) [(⟨#[108, 114, 97, 110, 103, 101]⟩ : ByteArray).data.toList, (⟨#[107]⟩ : ByteArray).data.toList, (F1 : ByteArray).data.toList, (⟨#[45, 49]⟩ : ByteArray).data.toList]) => (show Calls Tryd.prog 12 #[.agg #[.int .u8 k0, .string S0, .slice ql0 nl0 cl0, .slice qh0 nh0 ch0, .slice qz0 nz0 cz0], .slice (some ⟨g, 0, none⟩) 4 4] Y (DoN (listV (M)) (texts (M.drop ka)) Y) from don_to (range_is (part_on M ka HMk.out HMn.out _ _ HF1.out rfl)) (onR 5 (by decide) ⟨k0, S0, ql0, nl0, cl0, qh0, nh0, ch0, qz0, nz0, cz0, d0⟩ (M) ⟨#[108, 114, 97, 110, 103, 101]⟩ ⟨#[107]⟩ [(F1 : ByteArray).data.toList, (⟨#[45, 49]⟩ : ByteArray).data.toList] (some ⟨g, 0, none⟩) 4 4 Y hpv HD.out (HG.out Y hB) rfl (Nat.le_refl _) (by decide) hss (by decide) (by decide) (tame5 (Nat.le_refl 2) (by have := HLn.out; omega) HFl.out (by show F1.data.toList.length ≤ _; rw [str_len]; omega) (by show ([45, 49] : List UInt8).length ≤ _; decide)))))
  go_cut [11] (fun s11 wx => ∃ (qr : Option Addr) (cr : Nat), s11 = .slice qr N2 cr ∧ Hid (Below w5.heap.size w5 wx) ∧ Hid (∀ W, Below wx.heap.size wx W → (convert 29 9 (.slice qr N2 cr)).run Tryd.prog W = .ok (.string X2) W))
  case first =>
    have hr0 : VB _ g6 ⟨k0, S0, ql0, nl0, cl0, qh0, nh0, ch0, qz0, nz0, cz0, d0⟩ := HV.out
    obtain ⟨-, -, r00, r01, r02, r03, r04⟩ := hr0.room
    dsimp only at r00 r01 r02 r03 r04
    clear hr0
    have hr1 : VB _ g6 ⟨k0, S0, ql0, nl0, cl0, qh0, nh0, ch0, qz0, nz0, cz0, d0⟩ := HV.out.keep (Kit.below1 _ (.cells #[.int .u8 0, .string ⟨#[]⟩, .slice none 0 0, .slice none 0 0, .slice none 0 0] 26))
    obtain ⟨-, -, r10, r11, r12, r13, r14⟩ := hr1.room
    dsimp only at r10 r11 r12 r13 r14
    clear hr1
    go_region_law (first
      | (go_simp; (with_reducible refine (CT1.out _).mono ?_); rintro e wq4 ⟨rfl, hb4⟩; dsimp only
         have hb4' : Below w5.heap.size w5 wq4 := by first | exact hb4 | exact c_dr hb4 | exact c_al hb4 | exact c_da hb4
         have HB4 := Lib.hid (HB.out.trans (hb4'.mono HB.out.size))
         have HW4 := Lib.hid hb4'
         have HL4 := Lib.hid hb4'.size
         have HL0 := Lib.hid HB.out.size
         have K_HV := Lib.hid (HV.out.keep hb4')
         first
           | (have HZ4 := Lib.hid (show VZ wq4 w5.heap.size from vz_al hb4))
           | (have HZ4 := Lib.hid (show VZ wq4 w5.heap.size from vz_da hb4))
           | skip
         have hr2 : VB _ g6 ⟨k0, S0, ql0, nl0, cl0, qh0, nh0, ch0, qz0, nz0, cz0, d0⟩ := K_HV.out
         obtain ⟨-, -, r20, r21, r22, r23, r24⟩ := hr2.room
         dsimp only at r20 r21 r22 r23 r24
         clear hr2
         have hr3 : VB _ g6 ⟨k0, S0, ql0, nl0, cl0, qh0, nh0, ch0, qz0, nz0, cz0, d0⟩ := K_HV.out.keep (Kit.below1 _ (.cells #[.int .u8 0, .string ⟨#[]⟩, .slice none 0 0, .slice none 0 0, .slice none 0 0] 26))
         obtain ⟨-, -, r30, r31, r32, r33, r34⟩ := hr3.room
         dsimp only at r30 r31 r32 r33 r34
         clear hr3
         have hr4 : VB _ g6 ⟨k0, S0, ql0, nl0, cl0, qh0, nh0, ch0, qz0, nz0, cz0, d0⟩ := K_HV.out.keep (Kit.below1 _ (.cells #[.string ⟨#[108, 114, 97, 110, 103, 101]⟩, .string ⟨#[107]⟩, .string F1, .string ⟨#[45, 49]⟩] 9))
         obtain ⟨-, -, r40, r41, r42, r43, r44⟩ := hr4.room
         dsimp only at r40 r41 r42 r43 r44
         clear hr4
         have hr5 : VB _ g6 ⟨k0, S0, ql0, nl0, cl0, qh0, nh0, ch0, qz0, nz0, cz0, d0⟩ := (K_HV.out.keep (Kit.below1 _ (.cells #[.int .u8 0, .string ⟨#[]⟩, .slice none 0 0, .slice none 0 0, .slice none 0 0] 26))).keep (Kit.below1 _ (.cells #[.string ⟨#[108, 114, 97, 110, 103, 101]⟩, .string ⟨#[107]⟩, .string F1, .string ⟨#[45, 49]⟩] 9))
         obtain ⟨-, -, r50, r51, r52, r53, r54⟩ := hr5.room
         dsimp only at r50 r51 r52 r53 r54
         clear hr5
         have hr6 : VB _ g6 ⟨k0, S0, ql0, nl0, cl0, qh0, nh0, ch0, qz0, nz0, cz0, d0⟩ := (K_HV.out.keep (Kit.below1 _ (.cells #[.string ⟨#[108, 114, 97, 110, 103, 101]⟩, .string ⟨#[107]⟩, .string F1, .string ⟨#[45, 49]⟩] 9))).keep (Kit.below1 _ (.cells #[.int .u8 0, .string ⟨#[]⟩, .slice none 0 0, .slice none 0 0, .slice none 0 0] 26))
         obtain ⟨-, -, r60, r61, r62, r63, r64⟩ := hr6.room
         dsimp only at r60 r61 r62 r63 r64
         clear hr6
         clear hb4 hb4')
      | (go_simp; (with_reducible refine (CD.out _ _ (by first | exact HB4.out.alloc HB4.out.size _ | exact (HB4.out.alloc HB4.out.size _).alloc (Below.size (HB4.out.alloc HB4.out.size _)) _) (by first | exact (K_HV.out.keep (Kit.below1 _ _)).pv | exact ((K_HV.out.keep (Kit.below1 _ _)).keep (Kit.below1 _ _)).pv) (by first | exact ss4_at wq4 _ rfl ⟨#[108, 114, 97, 110, 103, 101]⟩ ⟨#[107]⟩ F1 ⟨#[45, 49]⟩ | exact ss4_at _ _ (by simp) ⟨#[108, 114, 97, 110, 103, 101]⟩ ⟨#[107]⟩ F1 ⟨#[45, 49]⟩ | exact StrT.Ss.keep (ss4_at wq4 _ rfl ⟨#[108, 114, 97, 110, 103, 101]⟩ ⟨#[107]⟩ F1 ⟨#[45, 49]⟩) (Kit.below1 _ _))).mono ?_); rintro e wq5 ⟨p9, vr, rfl, hI, hd, hn, hA, hb5⟩; dsimp only [PV.agg]
         obtain ⟨k9, S9, ql9, nl9, cl9, qh9, nh9, ch9, qz9, nz9, cz9, d9⟩ := p9
         dsimp only
         obtain ⟨q9, c9, rfl, -⟩ := ans_text hA N2 HN2.out X2 HX2.out
         have hb5' : Below wq4.heap.size wq4 wq5 := by first | exact c_al (c_al hb5) | exact c_al hb5
         have HB5 := Lib.hid (HB4.out.trans (hb5'.mono HB4.out.size))
         have HL5 := Lib.hid hb5'.size
         have HW5 := Lib.hid (HW4.out.trans (hb5'.mono HW4.out.size))
         first
           | (have hzl := HZ4.out.lt
              have hzc := HZ4.out.keep hb5'
              have HGt := Lib.hid (gov_five (w := w5) hzc hI (fun j hj => by have h1 := hn j hj; have := HL4.out; first | omega | (simp at h1; omega)) (by have := HL4.out; omega) HW5.out hA (by have := HL4.out; have := HL0.out; first | (simp; done) | (simp; omega)))
              obtain ⟨⟨z0, z1, z2, z3, z4⟩, y0, y1, y2, y3, y4⟩ := vz_facts hzc
              clear hzc)
           | (have hzc : VZ wq5 wq4.heap.size := vz_al (c_al hb5)
              have HGt := Lib.hid (gov_five (w := w5) hzc hI (fun j hj => by have h1 := hn j hj; have := HL4.out; first | omega | (simp at h1; omega)) (by have := HL4.out; omega) HW5.out hA (by have := HL4.out; have := HL0.out; first | (simp; done) | (simp; omega)))
              obtain ⟨⟨z0, z1, z2, z3, z4⟩, y0, y1, y2, y3, y4⟩ := vz_facts hzc
              clear hzc)
           | (have hzc : VZ wq5 (wq4.alloc (.cells #[.string ⟨#[108, 114, 97, 110, 103, 101]⟩, .string ⟨#[107]⟩, .string F1, .string ⟨#[45, 49]⟩] 9)).heap.size := vz_al hb5
              rw [show (wq4.alloc (.cells #[.string ⟨#[108, 114, 97, 110, 103, 101]⟩, .string ⟨#[107]⟩, .string F1, .string ⟨#[45, 49]⟩] 9)).heap.size = wq4.heap.size + 1 by simp] at hzc
              have HGt := Lib.hid (gov_five (w := w5) hzc hI (fun j hj => by have h1 := hn j hj; have := HL4.out; first | omega | (simp at h1; omega)) (by have := HL4.out; omega) HW5.out hA (by have := HL4.out; have := HL0.out; first | (simp; done) | (simp; omega)))
              obtain ⟨⟨z0, z1, z2, z3, z4⟩, y0, y1, y2, y3, y4⟩ := vz_facts hzc
              clear hzc)
           | (have HGt := Lib.hid (gov_new (w := w5) hI HW5.out hA))
         clear hI hd hn hA hb5 hb5'))
    all_goals
      go_wp2_with fail
      go_meet
      exact ⟨_, _, rfl, Lib.hid HGt.out.b, Lib.hid (ans_at HGt.out.a X2 HX2.out)⟩
  case rest =>
  obtain ⟨q11, c11, rfl, hbn, HC11⟩ := hcut
  rename World => w6
  have HV := Lib.hid (HV.out.keep hbn.out)
  have HV8 := Lib.hid (HV8.out.keep hbn.out)
  have HB := Lib.hid (HB.out.trans (hbn.out.mono HB.out.size))
  have HC8 := Lib.hid (fun W hW => HC8.out W (hbn.out.trans (Below.mono hW hbn.out.size)))
  clear hbn CD CT1
  go_upto_region 10 with fail
  have CD := Lib.hid (fun (Y : World) (g : Nat) (hB : Below w.heap.size w Y) (hpv : PV.In Y ⟨k0, S0, ql0, nl0, cl0, qh0, nh0, ch0, qz0, nz0, cz0, d0⟩) (hss : StrT.Ss Y (some ⟨g, 0, none⟩) [(⟨#[108, 114, 97, 110, 103, 101]⟩ : ByteArray).data.toList, (⟨#[107]⟩ : ByteArray).data.toList, (⟨#[48]⟩ : ByteArray).data.toList, (F2 : ByteArray).data.toList]) => (show Calls Tryd.prog 12 #[.agg #[.int .u8 k0, .string S0, .slice ql0 nl0 cl0, .slice qh0 nh0 ch0, .slice qz0 nz0 cz0], .slice (some ⟨g, 0, none⟩) 4 4] Y (DoN (listV (M)) (texts (upX M ka)) Y) from don_to (range_is (part_up M ka HMk.out HMn.out _ _ rfl HF2.out)) (onR 5 (by decide) ⟨k0, S0, ql0, nl0, cl0, qh0, nh0, ch0, qz0, nz0, cz0, d0⟩ (M) ⟨#[108, 114, 97, 110, 103, 101]⟩ ⟨#[107]⟩ [(⟨#[48]⟩ : ByteArray).data.toList, (F2 : ByteArray).data.toList] (some ⟨g, 0, none⟩) 4 4 Y hpv HD.out (HG.out Y hB) rfl (Nat.le_refl _) (by decide) hss (by decide) (by decide) (tame5 (Nat.le_refl 2) (by have := HLn.out; omega) HFl.out (by show ([48] : List UInt8).length ≤ _; decide) (by show F2.data.toList.length ≤ _; rw [str_len]; omega)))))
  go_cut [13] (fun s13 wx => ∃ (qr : Option Addr) (cr : Nat), s13 = .slice qr N4 cr ∧ Hid (Below w6.heap.size w6 wx) ∧ Hid (∀ W, Below wx.heap.size wx W → (convert 29 9 (.slice qr N4 cr)).run Tryd.prog W = .ok (.string X4) W))
  case first =>
    have hr0 : VB _ g6 ⟨k0, S0, ql0, nl0, cl0, qh0, nh0, ch0, qz0, nz0, cz0, d0⟩ := HV.out
    obtain ⟨-, -, r00, r01, r02, r03, r04⟩ := hr0.room
    dsimp only at r00 r01 r02 r03 r04
    clear hr0
    have hr1 : VB _ g6 ⟨k0, S0, ql0, nl0, cl0, qh0, nh0, ch0, qz0, nz0, cz0, d0⟩ := HV.out.keep (Kit.below1 _ (.cells #[.int .u8 0, .string ⟨#[]⟩, .slice none 0 0, .slice none 0 0, .slice none 0 0] 26))
    obtain ⟨-, -, r10, r11, r12, r13, r14⟩ := hr1.room
    dsimp only at r10 r11 r12 r13 r14
    clear hr1
    go_region_law (first
      | (go_simp; (with_reducible refine (CT2.out _).mono ?_); rintro e wq4 ⟨rfl, hb4⟩; dsimp only
         have hb4' : Below w6.heap.size w6 wq4 := by first | exact hb4 | exact c_dr hb4 | exact c_al hb4 | exact c_da hb4
         have HB4 := Lib.hid (HB.out.trans (hb4'.mono HB.out.size))
         have HW4 := Lib.hid hb4'
         have HL4 := Lib.hid hb4'.size
         have HL0 := Lib.hid HB.out.size
         have K_HV := Lib.hid (HV.out.keep hb4')
         first
           | (have HZ4 := Lib.hid (show VZ wq4 w6.heap.size from vz_al hb4))
           | (have HZ4 := Lib.hid (show VZ wq4 w6.heap.size from vz_da hb4))
           | skip
         have hr2 : VB _ g6 ⟨k0, S0, ql0, nl0, cl0, qh0, nh0, ch0, qz0, nz0, cz0, d0⟩ := K_HV.out
         obtain ⟨-, -, r20, r21, r22, r23, r24⟩ := hr2.room
         dsimp only at r20 r21 r22 r23 r24
         clear hr2
         have hr3 : VB _ g6 ⟨k0, S0, ql0, nl0, cl0, qh0, nh0, ch0, qz0, nz0, cz0, d0⟩ := K_HV.out.keep (Kit.below1 _ (.cells #[.int .u8 0, .string ⟨#[]⟩, .slice none 0 0, .slice none 0 0, .slice none 0 0] 26))
         obtain ⟨-, -, r30, r31, r32, r33, r34⟩ := hr3.room
         dsimp only at r30 r31 r32 r33 r34
         clear hr3
         have hr4 : VB _ g6 ⟨k0, S0, ql0, nl0, cl0, qh0, nh0, ch0, qz0, nz0, cz0, d0⟩ := K_HV.out.keep (Kit.below1 _ (.cells #[.string ⟨#[108, 114, 97, 110, 103, 101]⟩, .string ⟨#[107]⟩, .string ⟨#[48]⟩, .string F2] 9))
         obtain ⟨-, -, r40, r41, r42, r43, r44⟩ := hr4.room
         dsimp only at r40 r41 r42 r43 r44
         clear hr4
         have hr5 : VB _ g6 ⟨k0, S0, ql0, nl0, cl0, qh0, nh0, ch0, qz0, nz0, cz0, d0⟩ := (K_HV.out.keep (Kit.below1 _ (.cells #[.int .u8 0, .string ⟨#[]⟩, .slice none 0 0, .slice none 0 0, .slice none 0 0] 26))).keep (Kit.below1 _ (.cells #[.string ⟨#[108, 114, 97, 110, 103, 101]⟩, .string ⟨#[107]⟩, .string ⟨#[48]⟩, .string F2] 9))
         obtain ⟨-, -, r50, r51, r52, r53, r54⟩ := hr5.room
         dsimp only at r50 r51 r52 r53 r54
         clear hr5
         have hr6 : VB _ g6 ⟨k0, S0, ql0, nl0, cl0, qh0, nh0, ch0, qz0, nz0, cz0, d0⟩ := (K_HV.out.keep (Kit.below1 _ (.cells #[.string ⟨#[108, 114, 97, 110, 103, 101]⟩, .string ⟨#[107]⟩, .string ⟨#[48]⟩, .string F2] 9))).keep (Kit.below1 _ (.cells #[.int .u8 0, .string ⟨#[]⟩, .slice none 0 0, .slice none 0 0, .slice none 0 0] 26))
         obtain ⟨-, -, r60, r61, r62, r63, r64⟩ := hr6.room
         dsimp only at r60 r61 r62 r63 r64
         clear hr6
         clear hb4 hb4')
      | (go_simp; (with_reducible refine (CD.out _ _ (by first | exact HB4.out.alloc HB4.out.size _ | exact (HB4.out.alloc HB4.out.size _).alloc (Below.size (HB4.out.alloc HB4.out.size _)) _) (by first | exact (K_HV.out.keep (Kit.below1 _ _)).pv | exact ((K_HV.out.keep (Kit.below1 _ _)).keep (Kit.below1 _ _)).pv) (by first | exact ss4_at wq4 _ rfl ⟨#[108, 114, 97, 110, 103, 101]⟩ ⟨#[107]⟩ ⟨#[48]⟩ F2 | exact ss4_at _ _ (by simp) ⟨#[108, 114, 97, 110, 103, 101]⟩ ⟨#[107]⟩ ⟨#[48]⟩ F2 | exact StrT.Ss.keep (ss4_at wq4 _ rfl ⟨#[108, 114, 97, 110, 103, 101]⟩ ⟨#[107]⟩ ⟨#[48]⟩ F2) (Kit.below1 _ _))).mono ?_); rintro e wq5 ⟨p9, vr, rfl, hI, hd, hn, hA, hb5⟩; dsimp only [PV.agg]
         obtain ⟨k9, S9, ql9, nl9, cl9, qh9, nh9, ch9, qz9, nz9, cz9, d9⟩ := p9
         dsimp only
         obtain ⟨q9, c9, rfl, -⟩ := ans_text hA N4 HN4.out X4 HX4.out
         have hb5' : Below wq4.heap.size wq4 wq5 := by first | exact c_al (c_al hb5) | exact c_al hb5
         have HB5 := Lib.hid (HB4.out.trans (hb5'.mono HB4.out.size))
         have HL5 := Lib.hid hb5'.size
         have HW5 := Lib.hid (HW4.out.trans (hb5'.mono HW4.out.size))
         first
           | (have hzl := HZ4.out.lt
              have hzc := HZ4.out.keep hb5'
              have HGt := Lib.hid (gov_five (w := w6) hzc hI (fun j hj => by have h1 := hn j hj; have := HL4.out; first | omega | (simp at h1; omega)) (by have := HL4.out; omega) HW5.out hA (by have := HL4.out; have := HL0.out; first | (simp; done) | (simp; omega)))
              obtain ⟨⟨z0, z1, z2, z3, z4⟩, y0, y1, y2, y3, y4⟩ := vz_facts hzc
              clear hzc)
           | (have hzc : VZ wq5 wq4.heap.size := vz_al (c_al hb5)
              have HGt := Lib.hid (gov_five (w := w6) hzc hI (fun j hj => by have h1 := hn j hj; have := HL4.out; first | omega | (simp at h1; omega)) (by have := HL4.out; omega) HW5.out hA (by have := HL4.out; have := HL0.out; first | (simp; done) | (simp; omega)))
              obtain ⟨⟨z0, z1, z2, z3, z4⟩, y0, y1, y2, y3, y4⟩ := vz_facts hzc
              clear hzc)
           | (have hzc : VZ wq5 (wq4.alloc (.cells #[.string ⟨#[108, 114, 97, 110, 103, 101]⟩, .string ⟨#[107]⟩, .string ⟨#[48]⟩, .string F2] 9)).heap.size := vz_al hb5
              rw [show (wq4.alloc (.cells #[.string ⟨#[108, 114, 97, 110, 103, 101]⟩, .string ⟨#[107]⟩, .string ⟨#[48]⟩, .string F2] 9)).heap.size = wq4.heap.size + 1 by simp] at hzc
              have HGt := Lib.hid (gov_five (w := w6) hzc hI (fun j hj => by have h1 := hn j hj; have := HL4.out; first | omega | (simp at h1; omega)) (by have := HL4.out; omega) HW5.out hA (by have := HL4.out; have := HL0.out; first | (simp; done) | (simp; omega)))
              obtain ⟨⟨z0, z1, z2, z3, z4⟩, y0, y1, y2, y3, y4⟩ := vz_facts hzc
              clear hzc)
           | (have HGt := Lib.hid (gov_new (w := w6) hI HW5.out hA))
         clear hI hd hn hA hb5 hb5'))
    all_goals
      go_wp2_with fail
      go_meet
      exact ⟨_, _, rfl, Lib.hid HGt.out.b, Lib.hid (ans_at HGt.out.a X4 HX4.out)⟩
  case rest =>
  obtain ⟨q13, c13, rfl, hbn, HC13⟩ := hcut
  rename World => w7
  have HV := Lib.hid (HV.out.keep hbn.out)
  have HV8 := Lib.hid (HV8.out.keep hbn.out)
  have HB := Lib.hid (HB.out.trans (hbn.out.mono HB.out.size))
  have HC8 := Lib.hid (fun W hW => HC8.out W (hbn.out.trans (Below.mono hW hbn.out.size)))
  have HC11 := Lib.hid (fun W hW => HC11.out W (hbn.out.trans (Below.mono hW hbn.out.size)))
  clear hbn CD CT2
  go_upto_if 63 with fail
  go_cut [13] (fun v wx => ∃ (qr : Option Addr) (cr : Nat), v = .slice qr N3 cr ∧ Hid (Below w7.heap.size w7 wx) ∧ Hid (∀ W, Below wx.heap.size wx W → (convert 29 9 (.slice qr N3 cr)).run Tryd.prog W = .ok (.string X3) W))
  case first =>
    rcases Nat.eq_zero_or_pos ka with h0 | h0
    · have CN := Lib.hid (rtexts_nil w7)
      rw [show ([] : List (List UInt8)) = M.take ka by rw [h0]; rfl] at CN
      have tz : ((ka : Int) == 0) = true := by rw [beq_iff_eq]; omega
      clear h0
      go_wp2_with fail
      with_reducible refine CN.out.mono ?_
      rintro e w8 ⟨vr, rfl, hA, hb⟩
      obtain ⟨qr, cr, rfl, hv⟩ := ans_text hA N3 HN3.out X3 HX3.out
      have HBn := Lib.hid hb
      have HCn := Lib.hid hv
      clear hA hb hv
      go_wp2_with fail
      go_meet
      exact ⟨qr, cr, rfl, HBn, HCn⟩
    · have tz : ((ka : Int) == 0) = false := by rw [beq_eq_false_iff_ne]; omega
      have hup : upX M ka = M.take ka := if_neg (by omega)
      obtain rfl : N4 = N3 := by rw [← HN4.out, ← HN3.out, hup]
      obtain rfl : X4 = X3 := same_bytes (by rw [HX4.out, HX3.out, hup])
      clear h0 hup
      go_wp2_with fail
      go_meet
      exact ⟨_, _, rfl, Lib.hid (Below.refl _ _), HC13⟩
  case rest =>
  clear HC13 HN4 HX4
  obtain ⟨q14, c14, rfl, hbn, HC13⟩ := hcut
  rename World => w8
  have HV := Lib.hid (HV.out.keep hbn.out)
  have HV8 := Lib.hid (HV8.out.keep hbn.out)
  have HB := Lib.hid (HB.out.trans (hbn.out.mono HB.out.size))
  have HC8 := Lib.hid (fun W hW => HC8.out W (hbn.out.trans (Below.mono hW hbn.out.size)))
  have HC11 := Lib.hid (fun W hW => HC11.out W (hbn.out.trans (Below.mono hW hbn.out.size)))
  clear hbn
  obtain ⟨-, -, ra0, ra1, ra2, ra3, ra4⟩ := HV.out.room
  dsimp only at ra0 ra1 ra2 ra3 ra4
  obtain ⟨-, -, rb0, rb1, rb2, rb3, rb4⟩ := HV8.out.room
  dsimp only at rb0 rb1 rb2 rb3 rb4
  have CS := Lib.hid (RefV.rsame k0 S0 ql0 nl0 cl0 qh0 nh0 ch0 qz0 nz0 cz0 d0 k8 S8 ql8 nl8 cl8 qh8 nh8 ch8 qz8 nz8 cz8 d8 w8 HV.out.pv HV8.out.pv)
  rw [show sameB d0 d8 = true by rw [show d0 = _ from HD.out, show d8 = _ from HD8.out]; exact same_self _] at CS
  go_wp2_with fail
  with_reducible refine CS.out.mono ?_
  rintro e w9 ⟨rfl, hb⟩
  have HB := Lib.hid (HB.out.trans (hb.mono HB.out.size))
  have hc1 : ∀ W, Below w9.heap.size w9 W → _ := fun W hW => HC8.out W (hb.trans (Below.mono hW hb.size))
  have hc2 : ∀ W, Below w9.heap.size w9 W → _ := fun W hW => HC11.out W (hb.trans (Below.mono hW hb.size))
  have hc3 : ∀ W, Below w9.heap.size w9 W → _ := fun W hW => HC13.out W (hb.trans (Below.mono hW hb.size))
  have s1 := fun W => StrT.sl_l q m c ka hkm hmc W
  have s2 := fun W => sl_take q m c ka (by omega) W
  have HSw := Lib.hid (fun W (hW : Below w9.heap.size w9 W) => HM0.out.ss.keep (HB.out.trans (hW.mono HB.out.size)))
  have A1 := Lib.hid (fun W (h : Below w9.heap.size w9 W) => (show Calls Tryd.prog 17 #[.slice q m c] W (Said w9 W N1 X1) from (rtexts_sum q M m c W HLn.out (HSw.out W h) (by omega) HFl.out).mono (fun e w' hh => said_of hh h N1 HN1.out X1 HX1.out)))
  have A2 := Lib.hid (fun W (h : Below w9.heap.size w9 W) => (show Calls Tryd.prog 17 #[.slice (StrT.partAt q c ka) (m - ka) (c - ka)] W (Said w9 W N2 X2) from (rtexts_sum _ (M.drop ka) _ _ W (by rw [List.length_drop, HLn.out]) (StrT.Ss.drop (HSw.out W h) ka HMk.out c (by rw [HLn.out]; exact hmc)) (by omega) (by have := flat_part M ka m; rw [List.take_of_length_le (by rw [HLn.out]; exact Nat.le_refl _)] at this; exact Nat.le_trans this HFl.out)).mono (fun e w' hh => said_of hh h N2 HN2.out X2 HX2.out)))
  have A3 := Lib.hid (fun W (h : Below w9.heap.size w9 W) => (show Calls Tryd.prog 17 #[.slice q ka c] W (Said w9 W N3 X3) from (rtexts_sum q (M.take ka) ka c W (by rw [List.length_take, HLn.out]; omega) ((HSw.out W h).take ka) (by omega) (by have := flat_part M 0 ka; rw [List.drop_zero] at this; exact Nat.le_trans this HFl.out)).mono (fun e w' hh => said_of hh h N3 HN3.out X3 HX3.out)))
  generalize StrT.partAt q c ka = px at s1 A2
  generalize m - ka = nx at s1 A2
  generalize c - ka = cx at s1 A2
  clear CS hb HC8 HC11 HC13 HV HV8 HD HD8 HSw ra0 ra1 ra2 ra3 ra4 rb0 rb1 rb2 rb3 rb4
  go_upto_region 14 with fail
  refine wp_region_held_drew (S := fun W => Below w9.heap.size w9 W ∧ Below w9.heap.size w9 W) (by kernel_rfl) ?_ (fun hHeld => ?_)
  · exact ⟨(Below.refl _ _).drew, (Below.refl _ _).drew⟩
  refine wpAnyH_take (i := 0) (v := ?_) rfl (by kernel_rfl) (by kernel_rfl) (by kernel_rfl) (fun _ _ _ h => h) (Or.inl ⟨by rfl, ?_⟩) (by assumption) ?_
  rotate_left
  · intro W0 hSw; obtain ⟨hSa, hSb⟩ := hSw; go_simp; all_goals (with_reducible rfl)
  try simp only [Act.put, List.getElem_toArray, List.getElem_cons_zero, List.setIfInBounds_toArray, List.set_cons_zero, List.set_cons_succ]
  refine wpAnyH_take (i := 1) (v := ?_) rfl (by kernel_rfl) (by kernel_rfl) (by kernel_rfl) (fun _ _ _ h => h) (Or.inl ⟨by rfl, ?_⟩) (by assumption) ?_
  rotate_left
  · intro W0 hSw; obtain ⟨hSa, hSb⟩ := hSw; go_simp; all_goals (with_reducible rfl)
  try simp only [Act.put, List.getElem_toArray, List.getElem_cons_succ, List.getElem_cons_zero, List.setIfInBounds_toArray, List.set_cons_zero, List.set_cons_succ]
  refine wpAnyH_take (i := 2) (v := ?_) rfl (by kernel_rfl) (by kernel_rfl) (by kernel_rfl) (fun _ _ _ h => h) (Or.inl ⟨by rfl, ?_⟩) (by assumption) ?_
  rotate_left
  · intro W0 hSw; obtain ⟨hSa, hSb⟩ := hSw; go_simp; all_goals (with_reducible rfl)
  try simp only [Act.put, List.getElem_toArray, List.getElem_cons_succ, List.getElem_cons_zero, List.setIfInBounds_toArray, List.set_cons_zero, List.set_cons_succ]
  refine wpAnyH_take (i := 3) (v := ?_) rfl (by kernel_rfl) (by kernel_rfl) (by kernel_rfl) (fun _ _ _ h => h) (Or.inl ⟨by rfl, ?_⟩) (by assumption) ?_
  rotate_left
  · intro W0 hSw; obtain ⟨hSa, hSb⟩ := hSw; go_simp; all_goals (with_reducible rfl)
  try simp only [Act.put, List.getElem_toArray, List.getElem_cons_succ, List.getElem_cons_zero, List.setIfInBounds_toArray, List.set_cons_zero, List.set_cons_succ]
  refine wpAnyH_take (i := 4) (v := ?_) rfl (by kernel_rfl) (by kernel_rfl) (by kernel_rfl) (fun _ _ _ h => h) (Or.inl ⟨by rfl, ?_⟩) (by assumption) ?_
  rotate_left
  · intro W0 hSw; obtain ⟨hSa, hSb⟩ := hSw; go_simp; all_goals (with_reducible rfl)
  try simp only [Act.put, List.getElem_toArray, List.getElem_cons_succ, List.getElem_cons_zero, List.setIfInBounds_toArray, List.set_cons_zero, List.set_cons_succ]
  refine wpAnyH_take (i := 5) (v := ?_) rfl (by kernel_rfl) (by kernel_rfl) (by kernel_rfl) (fun _ _ _ h => h) (Or.inl ⟨by rfl, ?_⟩) (by assumption) ?_
  rotate_left
  · intro W0 hSw; obtain ⟨hSa, hSb⟩ := hSw; go_simp; all_goals (with_reducible rfl)
  try simp only [Act.put, List.getElem_toArray, List.getElem_cons_succ, List.getElem_cons_zero, List.setIfInBounds_toArray, List.set_cons_zero, List.set_cons_succ]
  refine wpAnyH_take (i := 6) (v := ?_) rfl (by kernel_rfl) (by kernel_rfl) (by kernel_rfl) (fun _ _ _ h => h) (Or.inl ⟨by rfl, ?_⟩) (by assumption) ?_
  rotate_left
  · intro W0 hSw; obtain ⟨hSa, hSb⟩ := hSw; go_simp; all_goals (with_reducible rfl)
  try simp only [Act.put, List.getElem_toArray, List.getElem_cons_succ, List.getElem_cons_zero, List.setIfInBounds_toArray, List.set_cons_zero, List.set_cons_succ]
  refine wpAnyH_take (i := 7) (v := ?_) rfl (by kernel_rfl) (by kernel_rfl) (by kernel_rfl) (fun _ _ _ h => h) (Or.inl ⟨by rfl, ?_⟩) (by assumption) ?_
  rotate_left
  · intro W0 hSw; obtain ⟨hSa, hSb⟩ := hSw; go_simp; all_goals (with_reducible rfl)
  try simp only [Act.put, List.getElem_toArray, List.getElem_cons_succ, List.getElem_cons_zero, List.setIfInBounds_toArray, List.set_cons_zero, List.set_cons_succ]
  refine wpAnyH_ready (rs := [8]) (by kernel_rfl) (by simp) ?_
  refine AllReadyH.cons rfl (fun K hK => ?_) AllReadyH.nil
  go_simp
  go_wp2_with (go_at_call 17; (refine (A1.out _ hHeld.1).mono ?_); rintro e wA0 ⟨pwA0, cwA0, rfl, vwA0, bwA0, ywA0, zwA0⟩)
  have hC := hHeld.2.trans (ywA0.mono hHeld.2.size)
  refine hK.out _ _ ?_ (fun hHeld2 => ?_)
  · exact ⟨bwA0, hC⟩
  clear hK K hHeld hHeld2
  have hHeld : Below w9.heap.size w9 wA0 ∧ Below wA0.heap.size wA0 wA0 := ⟨bwA0, zwA0⟩
  refine held_mono (S' := fun W => Below w9.heap.size w9 W ∧ Below wA0.heap.size wA0 W) (fun W hW => ⟨hW.1, hC.trans (hW.2.mono hC.size)⟩) _ _ _ _ ?_
  clear hC
  refine wpAnyH_take (i := 9) (v := ?_) rfl (by kernel_rfl) (by kernel_rfl) (by kernel_rfl) (fun _ _ _ h => h) (Or.inl ⟨by rfl, ?_⟩) (by assumption) ?_
  rotate_left
  · intro W0 hSw; obtain ⟨hSa, hSb⟩ := hSw; go_simp; all_goals (with_reducible rfl)
  try simp only [Act.put, List.getElem_toArray, List.getElem_cons_succ, List.getElem_cons_zero, List.setIfInBounds_toArray, List.set_cons_zero, List.set_cons_succ]
  refine wpAnyH_take (i := 10) (v := ?_) rfl (by kernel_rfl) (by kernel_rfl) (by kernel_rfl) (fun _ _ _ h => h) (Or.inl ⟨by rfl, ?_⟩) (by assumption) ?_
  rotate_left
  · intro W0 hSw; obtain ⟨hSa, hSb⟩ := hSw; go_simp; all_goals (with_reducible rfl)
  try simp only [Act.put, List.getElem_toArray, List.getElem_cons_succ, List.getElem_cons_zero, List.setIfInBounds_toArray, List.set_cons_zero, List.set_cons_succ]
  refine wpAnyH_take (i := 11) (v := ?_) rfl (by kernel_rfl) (by kernel_rfl) (by kernel_rfl) (fun _ _ _ h => h) (Or.inl ⟨by rfl, ?_⟩) (by assumption) ?_
  rotate_left
  · intro W0 hSw; obtain ⟨hSa, hSb⟩ := hSw; go_simp; all_goals (with_reducible rfl)
  try simp only [Act.put, List.getElem_toArray, List.getElem_cons_succ, List.getElem_cons_zero, List.setIfInBounds_toArray, List.set_cons_zero, List.set_cons_succ]
  refine wpAnyH_take (i := 12) (v := ?_) rfl (by kernel_rfl) (by kernel_rfl) (by kernel_rfl) (fun _ _ _ h => h) (Or.inl ⟨by rfl, ?_⟩) (by assumption) ?_
  rotate_left
  · intro W0 hSw; obtain ⟨hSa, hSb⟩ := hSw; go_simp; all_goals (with_reducible rfl)
  try simp only [Act.put, List.getElem_toArray, List.getElem_cons_succ, List.getElem_cons_zero, List.setIfInBounds_toArray, List.set_cons_zero, List.set_cons_succ]
  refine wpAnyH_take (i := 13) (v := ?_) rfl (by kernel_rfl) (by kernel_rfl) (by kernel_rfl) (fun _ _ _ h => h) (Or.inl ⟨by rfl, ?_⟩) (by assumption) ?_
  rotate_left
  · intro W0 hSw; obtain ⟨hSa, hSb⟩ := hSw; go_simp; all_goals (with_reducible rfl)
  try simp only [Act.put, List.getElem_toArray, List.getElem_cons_succ, List.getElem_cons_zero, List.setIfInBounds_toArray, List.set_cons_zero, List.set_cons_succ]
  refine wpAnyH_take (i := 14) (v := ?_) rfl (by kernel_rfl) (by kernel_rfl) (by kernel_rfl) (fun _ _ _ h => h) (Or.inl ⟨by rfl, ?_⟩) (by assumption) ?_
  rotate_left
  · intro W0 hSw; obtain ⟨hSa, hSb⟩ := hSw; go_simp; all_goals (with_reducible rfl)
  try simp only [Act.put, List.getElem_toArray, List.getElem_cons_succ, List.getElem_cons_zero, List.setIfInBounds_toArray, List.set_cons_zero, List.set_cons_succ]
  refine wpAnyH_take (i := 15) (v := ?_) rfl (by kernel_rfl) (by kernel_rfl) (by kernel_rfl) (fun _ _ _ h => h) (Or.inl ⟨by rfl, ?_⟩) (by assumption) ?_
  rotate_left
  · intro W0 hSw; obtain ⟨hSa, hSb⟩ := hSw; go_simp; all_goals (with_reducible rfl)
  try simp only [Act.put, List.getElem_toArray, List.getElem_cons_succ, List.getElem_cons_zero, List.setIfInBounds_toArray, List.set_cons_zero, List.set_cons_succ]
  refine wpAnyH_take (i := 16) (v := ?_) rfl (by kernel_rfl) (by kernel_rfl) (by kernel_rfl) (fun _ _ _ h => h) (Or.inl ⟨by rfl, ?_⟩) (by assumption) ?_
  rotate_left
  · intro W0 hSw; obtain ⟨hSa, hSb⟩ := hSw; go_simp; all_goals (with_reducible rfl)
  try simp only [Act.put, List.getElem_toArray, List.getElem_cons_succ, List.getElem_cons_zero, List.setIfInBounds_toArray, List.set_cons_zero, List.set_cons_succ]
  refine wpAnyH_take (i := 17) (v := ?_) rfl (by kernel_rfl) (by kernel_rfl) (by kernel_rfl) (fun _ _ _ h => h) (Or.inl ⟨by rfl, ?_⟩) (by assumption) ?_
  rotate_left
  · intro W0 hSw; obtain ⟨hSa, hSb⟩ := hSw; go_simp; all_goals (with_reducible rfl)
  try simp only [Act.put, List.getElem_toArray, List.getElem_cons_succ, List.getElem_cons_zero, List.setIfInBounds_toArray, List.set_cons_zero, List.set_cons_succ]
  refine wpAnyH_ready (rs := [18]) (by kernel_rfl) (by simp) ?_
  refine AllReadyH.cons rfl (fun K hK => ?_) AllReadyH.nil
  go_simp
  go_wp2_with (go_at_call 17; (refine (A2.out _ hHeld.1).mono ?_); rintro e wA1 ⟨pwA1, cwA1, rfl, vwA1, bwA1, ywA1, zwA1⟩)
  have hC := hHeld.2.trans (ywA1.mono hHeld.2.size)
  refine hK.out _ _ ?_ (fun hHeld2 => ?_)
  · exact ⟨bwA1, hC⟩
  clear hK K hHeld hHeld2
  have hHeld : Below w9.heap.size w9 wA1 ∧ Below wA1.heap.size wA1 wA1 := ⟨bwA1, zwA1⟩
  refine held_mono (S' := fun W => Below w9.heap.size w9 W ∧ Below wA1.heap.size wA1 W) (fun W hW => ⟨hW.1, hC.trans (hW.2.mono hC.size)⟩) _ _ _ _ ?_
  clear hC
  refine wpAnyH_take (i := 19) (v := ?_) rfl (by kernel_rfl) (by kernel_rfl) (by kernel_rfl) (fun _ _ _ h => h) (Or.inl ⟨by rfl, ?_⟩) (by assumption) ?_
  rotate_left
  · intro W0 hSw; obtain ⟨hSa, hSb⟩ := hSw; go_simp; all_goals (with_reducible rfl)
  try simp only [Act.put, List.getElem_toArray, List.getElem_cons_succ, List.getElem_cons_zero, List.setIfInBounds_toArray, List.set_cons_zero, List.set_cons_succ]
  refine wpAnyH_take (i := 20) (v := ?_) rfl (by kernel_rfl) (by kernel_rfl) (by kernel_rfl) (fun _ _ _ h => h) (Or.inl ⟨by rfl, ?_⟩) (by assumption) ?_
  rotate_left
  · intro W0 hSw; obtain ⟨hSa, hSb⟩ := hSw; go_simp; all_goals (with_reducible rfl)
  try simp only [Act.put, List.getElem_toArray, List.getElem_cons_succ, List.getElem_cons_zero, List.setIfInBounds_toArray, List.set_cons_zero, List.set_cons_succ]
  refine wpAnyH_take (i := 21) (v := ?_) rfl (by kernel_rfl) (by kernel_rfl) (by kernel_rfl) (fun _ _ _ h => h) (Or.inl ⟨by rfl, ?_⟩) (by assumption) ?_
  rotate_left
  · intro W0 hSw; obtain ⟨hSa, hSb⟩ := hSw; go_simp; all_goals (with_reducible rfl)
  try simp only [Act.put, List.getElem_toArray, List.getElem_cons_succ, List.getElem_cons_zero, List.setIfInBounds_toArray, List.set_cons_zero, List.set_cons_succ]
  refine wpAnyH_take (i := 22) (v := ?_) rfl (by kernel_rfl) (by kernel_rfl) (by kernel_rfl) (fun _ _ _ h => h) (Or.inl ⟨by rfl, ?_⟩) (by assumption) ?_
  rotate_left
  · intro W0 hSw; obtain ⟨hSa, hSb⟩ := hSw; go_simp; all_goals (with_reducible rfl)
  try simp only [Act.put, List.getElem_toArray, List.getElem_cons_succ, List.getElem_cons_zero, List.setIfInBounds_toArray, List.set_cons_zero, List.set_cons_succ]
  refine wpAnyH_take (i := 23) (v := ?_) rfl (by kernel_rfl) (by kernel_rfl) (by kernel_rfl) (fun _ _ _ h => h) (Or.inl ⟨by rfl, ?_⟩) (by assumption) ?_
  rotate_left
  · intro W0 hSw; obtain ⟨hSa, hSb⟩ := hSw; go_simp; all_goals (with_reducible rfl)
  try simp only [Act.put, List.getElem_toArray, List.getElem_cons_succ, List.getElem_cons_zero, List.setIfInBounds_toArray, List.set_cons_zero, List.set_cons_succ]
  refine wpAnyH_take (i := 24) (v := ?_) rfl (by kernel_rfl) (by kernel_rfl) (by kernel_rfl) (fun _ _ _ h => h) (Or.inl ⟨by rfl, ?_⟩) (by assumption) ?_
  rotate_left
  · intro W0 hSw; obtain ⟨hSa, hSb⟩ := hSw; go_simp; all_goals (with_reducible rfl)
  try simp only [Act.put, List.getElem_toArray, List.getElem_cons_succ, List.getElem_cons_zero, List.setIfInBounds_toArray, List.set_cons_zero, List.set_cons_succ]
  refine wpAnyH_take (i := 25) (v := ?_) rfl (by kernel_rfl) (by kernel_rfl) (by kernel_rfl) (fun _ _ _ h => h) (Or.inl ⟨by rfl, ?_⟩) (by assumption) ?_
  rotate_left
  · intro W0 hSw; obtain ⟨hSa, hSb⟩ := hSw; go_simp; all_goals (with_reducible rfl)
  try simp only [Act.put, List.getElem_toArray, List.getElem_cons_succ, List.getElem_cons_zero, List.setIfInBounds_toArray, List.set_cons_zero, List.set_cons_succ]
  refine wpAnyH_take (i := 26) (v := ?_) rfl (by kernel_rfl) (by kernel_rfl) (by kernel_rfl) (fun _ _ _ h => h) (Or.inl ⟨by rfl, ?_⟩) (by assumption) ?_
  rotate_left
  · intro W0 hSw; obtain ⟨hSa, hSb⟩ := hSw; go_simp; all_goals (with_reducible rfl)
  try simp only [Act.put, List.getElem_toArray, List.getElem_cons_succ, List.getElem_cons_zero, List.setIfInBounds_toArray, List.set_cons_zero, List.set_cons_succ]
  refine wpAnyH_take (i := 27) (v := ?_) rfl (by kernel_rfl) (by kernel_rfl) (by kernel_rfl) (fun _ _ _ h => h) (Or.inl ⟨by rfl, ?_⟩) (by assumption) ?_
  rotate_left
  · intro W0 hSw; obtain ⟨hSa, hSb⟩ := hSw; go_simp; all_goals (with_reducible rfl)
  try simp only [Act.put, List.getElem_toArray, List.getElem_cons_succ, List.getElem_cons_zero, List.setIfInBounds_toArray, List.set_cons_zero, List.set_cons_succ]
  refine wpAnyH_ready (rs := [28]) (by kernel_rfl) (by simp) ?_
  refine AllReadyH.cons rfl (fun K hK => ?_) AllReadyH.nil
  go_simp
  go_wp2_with (go_at_call 17; (refine (A3.out _ hHeld.1).mono ?_); rintro e wA2 ⟨pwA2, cwA2, rfl, vwA2, bwA2, ywA2, zwA2⟩)
  have hC := hHeld.2.trans (ywA2.mono hHeld.2.size)
  refine hK.out _ _ ?_ (fun hHeld2 => ?_)
  · exact ⟨bwA2, hC⟩
  clear hK K hHeld hHeld2
  have hHeld : Below w9.heap.size w9 wA2 ∧ Below wA2.heap.size wA2 wA2 := ⟨bwA2, zwA2⟩
  refine held_mono (S' := fun W => Below w9.heap.size w9 W ∧ Below wA2.heap.size wA2 W) (fun W hW => ⟨hW.1, hC.trans (hW.2.mono hC.size)⟩) _ _ _ _ ?_
  clear hC
  refine wpAnyH_take (i := 29) (v := ?_) rfl (by kernel_rfl) (by kernel_rfl) (by kernel_rfl) (fun _ _ _ h => h) (Or.inl ⟨by rfl, ?_⟩) (by assumption) ?_
  rotate_left
  · intro W0 hSw; obtain ⟨hSa, hSb⟩ := hSw; go_simp; all_goals (with_reducible rfl)
  try simp only [Act.put, List.getElem_toArray, List.getElem_cons_succ, List.getElem_cons_zero, List.setIfInBounds_toArray, List.set_cons_zero, List.set_cons_succ]
  refine wpAnyH_take (i := 30) (v := ?_) rfl (by kernel_rfl) (by kernel_rfl) (by kernel_rfl) (fun _ _ _ h => h) (Or.inl ⟨by rfl, ?_⟩) (by assumption) ?_
  rotate_left
  · intro W0 hSw; obtain ⟨hSa, hSb⟩ := hSw; go_simp; all_goals (with_reducible rfl)
  try simp only [Act.put, List.getElem_toArray, List.getElem_cons_succ, List.getElem_cons_zero, List.setIfInBounds_toArray, List.set_cons_zero, List.set_cons_succ]
  refine wpAnyH_take (i := 31) (v := ?_) rfl (by kernel_rfl) (by kernel_rfl) (by kernel_rfl) (fun _ _ _ h => h) (Or.inl ⟨by rfl, ?_⟩) (by assumption) ?_
  rotate_left
  · intro W0 hSw; obtain ⟨hSa, hSb⟩ := hSw; go_simp; all_goals (with_reducible rfl)
  try simp only [Act.put, List.getElem_toArray, List.getElem_cons_succ, List.getElem_cons_zero, List.setIfInBounds_toArray, List.set_cons_zero, List.set_cons_succ]
  refine wpAnyH_take (i := 32) (v := ?_) rfl (by kernel_rfl) (by kernel_rfl) (by kernel_rfl) (fun _ _ _ h => h) (Or.inl ⟨by rfl, ?_⟩) (by assumption) ?_
  rotate_left
  · intro W0 hSw; obtain ⟨hSa, hSb⟩ := hSw; go_simp; all_goals (with_reducible rfl)
  try simp only [Act.put, List.getElem_toArray, List.getElem_cons_succ, List.getElem_cons_zero, List.setIfInBounds_toArray, List.set_cons_zero, List.set_cons_succ]
  refine wpAnyH_done (by kernel_rfl) ?_ _
  go_wp2_with fail
  go_ret
  exact ⟨rfl, HB.out.trans (hHeld.1.mono HB.out.size)⟩

end Go.Proofs.YteadjcligmmkmaaDoor.listsRanges
