/-
  SetsMoves: a text that is moved is in just one of both sets; both have as many together as before, or one fewer; nothing is moved that is not there.
-/
import Derived.Test.YtmdkegamfjkfbaaDoorSetMove
import Derived.Test.YtmdkegamfjkfbaaDoorSetShown
import Derived.Test.YtmdkegamfjkfbaaDoorSetFits
import Derived.Test.YtmdkegamfjkfbaaDoorRefIn
import Derived.Test.YtmdkegamfjkfbaaDoorRefVals
import Derived.Test.YtmdkegamfjkfbaaDoorRefVal3
import Derived.Deep.QuietTactic
import Derived.Deep.DeepCutAuto
import Derived.BigQuiet
import Derived.StillTailTactics
import Derived.Deep.RegionLaw
namespace Go.Proofs.YtmdkegamfjkfbaaDoor.setsMoves
open Go.RowKit Kit StrT RowG BOrd ValT StoT ReplyT ReplyMath ValM BytesIn DoT Low SetT NumL NumMath SetM SaidT RefR DoV LawK SetL RefV StrS
set_option linter.unusedVariables false
set_option maxRecDepth 100000
-- ASKS: NumL.Gt


theorem fit_kind (d : V) : (fitV d).kind ≤ 255 := by
  unfold fitV v0
  repeat' split
  all_goals simp
theorem same_self (d : V) : sameB d d = true := decide_eq_true rfl
theorem mov_to {f : FuncId} {ar : Array Value} {W : World} {x : V × V × List UInt8} {a b : V} {l : List UInt8} (h : x = (a, b, l)) (c : Calls Tryd.prog f ar W (MovP x.1 x.2.1 x.2.2 W)) : Calls Tryd.prog f ar W (MovP a b l W) := by
  rw [h] at c
  exact c
theorem mov_in {A B : List (List UInt8)} {s : List UInt8} (h : s ∈ A) : moveD (setV A) (setV B) s = (setV (remS A [s]), setV (insS B s), int 1) := by
  unfold moveD
  rw [if_pos ⟨setV_kind A, setV_kind B⟩, setV_l, setV_l, if_pos h]
theorem mov_not {A B : List (List UInt8)} {s : List UInt8} (h : s ∉ A) : moveD (setV A) (setV B) s = (setV A, setV B, int 0) := by
  unfold moveD
  rw [if_pos ⟨setV_kind A, setV_kind B⟩, setV_l, if_neg h]

set_option maxHeartbeats 16000000 in
theorem walk (qa : Option Addr) (LA : List (List UInt8)) (na ca : Nat) (qb : Option Addr) (LB : List (List UInt8)) (nb cb : Nat) (s : ByteArray) (w : World) (hLa : LA.length = na) (ha : StrT.Ss w qa LA) (hza : ∀ s ∈ LA, s.length ≤ 140737488351232) (hcapa : na ≤ ca) (hcma : ca ≤ 9223372036854775807) (hnila : qa = none → ca = 0) (hLb : LB.length = nb) (hb : StrT.Ss w qb LB) (hzb : ∀ s ∈ LB, s.length ≤ 140737488351232) (hcapb : nb ≤ cb) (hcmb : cb ≤ 9223372036854775807) (hnilb : qb = none → cb = 0) (hsz : s.size ≤ 140737488351232) (hg : Gt w) :
    Calls Tryd.prog 5 #[.slice qa na ca, .slice qb nb cb, .string s] w fun e w' => e = .returned (.bool true) ∧ Below w.heap.size w w' := by
  have HG := Lib.hid (fun W (h : Below w.heap.size w W) => hg.keep h)
  have C0 := Lib.hid (shown_any w hg)
  have CA := Lib.hid (fun W (hW : Below w.heap.size w W) => rfit 4 ⟨#[]⟩ qa na ca none 0 0 none 0 0 ⟨4, [], LA, [], []⟩ W ⟨rfl, by simp, rfl, rs_ss.2 (ha.keep hW), Rs.nil _ _ _, Rs.nil _ _ _, hLa, rfl, rfl, hcapa, by simp, by simp, hcma, by simp, by simp, hnila, fun _ => rfl, fun _ => rfl⟩ (by decide))
  have CB := Lib.hid (fun W (hW : Below w.heap.size w W) => rfit 4 ⟨#[]⟩ qb nb cb none 0 0 none 0 0 ⟨4, [], LB, [], []⟩ W ⟨rfl, by simp, rfl, rs_ss.2 (hb.keep hW), Rs.nil _ _ _, Rs.nil _ _ _, hLb, rfl, rfl, hcapb, by simp, by simp, hcmb, by simp, by simp, hnilb, fun _ => rfl, fun _ => rfl⟩ (by decide))
  have HFa := Lib.hid (fit_texts LA)
  have HFb := Lib.hid (fit_texts LB)
  have HUa := Lib.hid (show rises (fitL LA) ∧ (fitL LA).length ≤ 8 from ⟨fitL_up LA, fitL_len LA⟩)
  have HUb := Lib.hid (show rises (fitL LB) ∧ (fitL LB).length ≤ 8 from ⟨fitL_up LB, fitL_len LB⟩)
  generalize fitL LA = A at HFa HUa
  generalize fitL LB = B at HFb HUb
  obtain ⟨S, hS⟩ : ∃ S : ByteArray, S = if s.size ≤ 20 then s else s.extract 0 20 := ⟨_, rfl⟩
  have hSz := cutN hS
  obtain ⟨ms, hms⟩ : ∃ ms : Nat, ms = min s.size 20 := ⟨_, rfl⟩
  have hminms : min (s.size : Int) 20 = (ms : Int) := by omega
  have slS : ∀ W, (Instr.slice 9 (.string s) none (some (.int .i64 (ms : Int))) none).run Tryd.prog W = .ok (.string S) W := fun W => by
    have h := run_slice_string_h (P := Tryd.prog) W 9 s Tryd.underlying9 .i64 (ms : Int) (by omega) (by omega)
    rw [h, hS]
    split
    · rw [show ((ms : Nat) : Int).toNat = s.size by omega, ByteArray.extract_zero_size]
    · rw [show ((ms : Nat) : Int).toNat = 20 by omega]
  clear hS hms
  clear ha hb hza hzb hcma hcmb hnila hnilb hg hLa hLb
  go_enter Tryd.func5, Tryd.ntmps5
  go_wp2_with fail
  with_reducible refine C0.out.mono ?_
  rintro e w1 ⟨rfl, hb1⟩
  have HB := Lib.hid hb1
  clear hb1 C0
  go_wp2_with fail
  with_reducible refine (CA.out w1 HB.out).mono ?_
  rintro e w2 ⟨v, rfl, hA, hb⟩
  obtain ⟨p8, rfl, hI, hd, -, -⟩ := pv_of hA (fit_kind _) (fit_len _).1 (fit_len _).2.1 (fit_len _).2.2
  obtain ⟨k8, S8, ql8, nl8, cl8, qh8, nh8, ch8, qz8, nz8, cz8, d8⟩ := p8
  dsimp only [PV.agg]
  have hd : d8 = setV A := Eq.trans hd HFa.out
  have hn : True := trivial
  have hbn := hb.trans ((Kit.below1 w2 (.cells #[.int .u8 k8, .string S8, .slice ql8 nl8 cl8, .slice qh8 nh8 ch8, .slice qz8 nz8 cz8] 26)).mono hb.size)
  have HB := Lib.hid (HB.out.trans (hbn.mono HB.out.size))
  have HV8 := Lib.hid (show VB _ w2.heap.size ⟨k8, S8, ql8, nl8, cl8, qh8, nh8, ch8, qz8, nz8, cz8, d8⟩ from VB.new hI)
  have HD8 := Lib.hid (show PV.d ⟨k8, S8, ql8, nl8, cl8, qh8, nh8, ch8, qz8, nz8, cz8, d8⟩ = _ from hd)
  have HL8 := Lib.hid (show w1.heap.size ≤ w2.heap.size from Below.size hb)
  clear hI hd hn hA hb hbn
  go_upto_region 3 with fail
  generalize hgg : w2.heap.size = g8 at HV8 HL8 ⊢
  clear hgg
  generalize w2.alloc (.cells #[.int .u8 k8, .string S8, .slice ql8 nl8 cl8, .slice qh8 nh8 ch8, .slice qz8 nz8 cz8] 26) = w3 at HV8 HB ⊢
  clear CA HL8 HFa
  go_wp2_with fail
  with_reducible refine (CB.out w3 HB.out).mono ?_
  rintro e w4 ⟨v, rfl, hA, hb⟩
  obtain ⟨p9, rfl, hI, hd, -, -⟩ := pv_of hA (fit_kind _) (fit_len _).1 (fit_len _).2.1 (fit_len _).2.2
  obtain ⟨k9, S9, ql9, nl9, cl9, qh9, nh9, ch9, qz9, nz9, cz9, d9⟩ := p9
  dsimp only [PV.agg]
  have hd : d9 = setV B := Eq.trans hd HFb.out
  have hn : True := trivial
  have hbn := hb.trans ((Kit.below1 w4 (.cells #[.int .u8 k9, .string S9, .slice ql9 nl9 cl9, .slice qh9 nh9 ch9, .slice qz9 nz9 cz9] 26)).mono hb.size)
  have HV8 := Lib.hid (HV8.out.keep hbn)
  have HB := Lib.hid (HB.out.trans (hbn.mono HB.out.size))
  have HV9 := Lib.hid (show VB _ w4.heap.size ⟨k9, S9, ql9, nl9, cl9, qh9, nh9, ch9, qz9, nz9, cz9, d9⟩ from VB.new hI)
  have HD9 := Lib.hid (show PV.d ⟨k9, S9, ql9, nl9, cl9, qh9, nh9, ch9, qz9, nz9, cz9, d9⟩ = _ from hd)
  have HL9 := Lib.hid (show w3.heap.size ≤ w4.heap.size from Below.size hb)
  clear hI hd hn hA hb hbn
  go_upto_region 4 with fail
  generalize hgg : w4.heap.size = g9 at HV9 HL9 ⊢
  clear hgg
  generalize w4.alloc (.cells #[.int .u8 k9, .string S9, .slice ql9 nl9 cl9, .slice qh9 nh9 ch9, .slice qz9 nz9 cz9] 26) = w5 at HV9 HV8 HB ⊢
  clear CB HL9 HFb
  obtain ⟨e8, -, hs8⟩ := pv_strs HV8.out.pv HD8.out
  obtain ⟨e9, -, hs9⟩ := pv_strs HV9.out.pv HD9.out
  dsimp only at e8 e9 hs8 hs9
  have hn8 : nl8 ≤ 8 := by rw [e8]; exact HUa.out.2
  have hn9 : nl9 ≤ 8 := by rw [e9]; exact HUb.out.2
  have CI8 := Lib.hid (in_any ql8 A nl8 cl8 S S.data.toList w5 e8.symm hs8 rfl (by omega))
  have CI9 := Lib.hid (in_any ql9 B nl9 cl9 S S.data.toList w5 e9.symm hs9 rfl (by omega))
  have HE8 := Lib.hid e8
  have HE9 := Lib.hid e9
  clear e8 e9 hs8 hs9
  obtain ⟨-, -, rx0, rx1, rx2, rx3, rx4⟩ := HV8.out.room
  dsimp only at rx0 rx1 rx2 rx3 rx4
  go_wp2_with fail
  clear rx0 rx1 rx2 rx3 rx4
  with_reducible refine CI8.out.mono ?_
  rintro e w6 ⟨rfl, rfl⟩
  obtain ⟨-, -, ry0, ry1, ry2, ry3, ry4⟩ := HV9.out.room
  dsimp only at ry0 ry1 ry2 ry3 ry4
  go_wp2_with fail
  clear ry0 ry1 ry2 ry3 ry4
  with_reducible refine CI9.out.mono ?_
  rintro e w7 ⟨rfl, rfl⟩
  clear CI8 CI9
  have CM := Lib.hid (fun (a b : V) (l : List UInt8) (h : moveD (setV A) (setV B) S.data.toList = (a, b, l)) => (show Calls Tryd.prog 12 #[.agg #[.int .u8 k8, .string S8, .slice ql8 nl8 cl8, .slice qh8 nh8 ch8, .slice qz8 nz8 cz8], .agg #[.int .u8 k9, .string S9, .slice ql9 nl9 cl9, .slice qh9 nh9 ch9, .slice qz9 nz9 cz9], .string S] w7 (MovP a b l w7) from mov_to (show moveD d8 d9 S.data.toList = (a, b, l) by rw [show d8 = setV A from HD8.out, show d9 = setV B from HD9.out]; exact h) (move_any ⟨k8, S8, ql8, nl8, cl8, qh8, nh8, ch8, qz8, nz8, cz8, d8⟩ ⟨k9, S9, ql9, nl9, cl9, qh9, nh9, ch9, qz9, nz9, cz9, d9⟩ A B S w7 HV8.out.pv HV9.out.pv HD8.out HD9.out HUa.out.1 HUb.out.1 (by have := HUb.out.2; omega) (HG.out w7 HB.out))))
  obtain ⟨-, -, rx0, rx1, rx2, rx3, rx4⟩ := HV8.out.room
  dsimp only at rx0 rx1 rx2 rx3 rx4
  obtain ⟨-, -, ry0, ry1, ry2, ry3, ry4⟩ := HV9.out.room
  dsimp only at ry0 ry1 ry2 ry3 ry4
  by_cases hin : S.data.toList ∈ A
  · have CM := Lib.hid (CM.out _ _ _ (mov_in hin))
    have HIn := Lib.hid hin
    rw [show decide (S.data.toList ∈ A) = true from decide_eq_true hin]
    clear hin
    go_wp2_with fail
    clear rx0 rx1 rx2 rx3 rx4 ry0 ry1 ry2 ry3 ry4
    with_reducible refine CM.out.mono ?_
    rintro e wa ⟨p5, p6, vr, rfl, hI5, hI6, hd5, hd6, -, -, hA, hb⟩
    obtain ⟨k5, S5, ql5, nl5, cl5, qh5, nh5, ch5, qz5, nz5, cz5, d5⟩ := p5
    obtain ⟨k6, S6, ql6, nl6, cl6, qh6, nh6, ch6, qz6, nz6, cz6, d6⟩ := p6
    dsimp only [PV.agg]
    obtain ⟨qr, cr, rfl, hv⟩ := ans_text hA 4 (by decide +kernel) ⟨#[58, 49, 13, 10]⟩ (by decide +kernel)
    have hbx : Below wa.heap.size wa ((wa.alloc (.cells #[.int .u8 k5, .string S5, .slice ql5 nl5 cl5, .slice qh5 nh5 ch5, .slice qz5 nz5 cz5] 26)).alloc (.cells #[.int .u8 k6, .string S6, .slice ql6 nl6 cl6, .slice qh6 nh6 ch6, .slice qz6 nz6 cz6] 26)) := (Kit.below1 _ _).trans ((Kit.below1 _ _).mono (Below.size (Kit.below1 _ _)))
    have hbn := hb.trans (hbx.mono hb.size)
    have HV8 := Lib.hid (HV8.out.keep hbn)
    have HV9 := Lib.hid (HV9.out.keep hbn)
    have HB := Lib.hid (HB.out.trans (hbn.mono HB.out.size))
    have HC := Lib.hid (fun W hW => hv W (hbx.trans (Below.mono hW hbx.size)))
    have HV5 := Lib.hid (show VB ((wa.alloc (.cells #[.int .u8 k5, .string S5, .slice ql5 nl5 cl5, .slice qh5 nh5 ch5, .slice qz5 nz5 cz5] 26)).alloc (.cells #[.int .u8 k6, .string S6, .slice ql6 nl6 cl6, .slice qh6 nh6 ch6, .slice qz6 nz6 cz6] 26)) wa.heap.size ⟨k5, S5, ql5, nl5, cl5, qh5, nh5, ch5, qz5, nz5, cz5, d5⟩ from (VB.new hI5).keep (Kit.below1 _ _))
    have HV6 := Lib.hid (show VB ((wa.alloc (.cells #[.int .u8 k5, .string S5, .slice ql5 nl5 cl5, .slice qh5 nh5 ch5, .slice qz5 nz5 cz5] 26)).alloc (.cells #[.int .u8 k6, .string S6, .slice ql6 nl6 cl6, .slice qh6 nh6 ch6, .slice qz6 nz6 cz6] 26)) (wa.heap.size + 1) ⟨k6, S6, ql6, nl6, cl6, qh6, nh6, ch6, qz6, nz6, cz6, d6⟩ from by
      have h := VB.new (p := ⟨k6, S6, ql6, nl6, cl6, qh6, nh6, ch6, qz6, nz6, cz6, d6⟩) (pv_keep hI6 (Kit.below1 wa (.cells #[.int .u8 k5, .string S5, .slice ql5 nl5 cl5, .slice qh5 nh5 ch5, .slice qz5 nz5 cz5] 26)))
      rw [show (wa.alloc (.cells #[.int .u8 k5, .string S5, .slice ql5 nl5 cl5, .slice qh5 nh5 ch5, .slice qz5 nz5 cz5] 26)).heap.size = wa.heap.size + 1 by simp] at h
      exact h)
    have HD5 := Lib.hid (show PV.d ⟨k5, S5, ql5, nl5, cl5, qh5, nh5, ch5, qz5, nz5, cz5, d5⟩ = _ from hd5)
    have HD6 := Lib.hid (show PV.d ⟨k6, S6, ql6, nl6, cl6, qh6, nh6, ch6, qz6, nz6, cz6, d6⟩ = _ from hd6)
    clear hI5 hI6 hd5 hd6 hA hb hbx hbn hv CM
    go_upto_region 12 with fail
    generalize hgg : wa.heap.size = g5 at HV5 HV6 ⊢
    clear hgg
    generalize (wa.alloc (.cells #[.int .u8 k5, .string S5, .slice ql5 nl5 cl5, .slice qh5 nh5 ch5, .slice qz5 nz5 cz5] 26)).alloc (.cells #[.int .u8 k6, .string S6, .slice ql6 nl6 cl6, .slice qh6 nh6 ch6, .slice qz6 nz6 cz6] 26) = w8 at HV5 HV6 HB HC HV8 HV9 ⊢
    obtain ⟨e5, -, hs5⟩ := pv_strs HV5.out.pv HD5.out
    obtain ⟨e6, -, hs6⟩ := pv_strs HV6.out.pv HD6.out
    dsimp only at e5 e6 hs5 hs6
    have HL1 := Lib.hid (show nl5 + 1 = nl8 by rw [e5, HE8.out]; exact rem_one HUa.out.1 _ HIn.out _ (fun m => by simp))
    have hin5 : S.data.toList ∉ remS A [S.data.toList] := fun h => by simpa using ((rem_mem _ _ _).1 h).2
    have hin6 : S.data.toList ∈ insS B S.data.toList := (ins_mem _ _ _).2 (Or.inl rfl)
    have HL2 : Hid ((S.data.toList ∈ B ∧ nl6 = nl9) ∨ (S.data.toList ∉ B ∧ nl6 = nl9 + 1)) := Lib.hid (by
      by_cases h : S.data.toList ∈ B
      · exact Or.inl ⟨h, by rw [e6, HE9.out, ins_in HUb.out.1 h]⟩
      · exact Or.inr ⟨h, by rw [e6, HE9.out, ins_len h]⟩)
    have hz5 : nl5 ≤ 8 := by have := HL1.out; omega
    have hz6 : nl6 ≤ 9 := by have := HL2.out; omega
    have CI5 := Lib.hid (in_any ql5 _ nl5 cl5 S S.data.toList w8 e5.symm hs5 rfl (by omega))
    have CI6 := Lib.hid (in_any ql6 _ nl6 cl6 S S.data.toList w8 e6.symm hs6 rfl (by omega))
    rw [show decide (S.data.toList ∈ remS A [S.data.toList]) = false from decide_eq_false hin5] at CI5
    rw [show decide (S.data.toList ∈ insS B S.data.toList) = true from decide_eq_true hin6] at CI6
    have HN := Lib.hid (show nl5 ≤ 8 ∧ nl6 ≤ 9 ∧ nl8 ≤ 8 ∧ nl9 ≤ 8 from ⟨hz5, hz6, hn8, hn9⟩)
    clear e5 e6 hs5 hs6 hin5 hin6 hz5 hz6 hn8 hn9
    obtain ⟨-, -, rx0, rx1, rx2, rx3, rx4⟩ := HV5.out.room
    dsimp only at rx0 rx1 rx2 rx3 rx4
    go_wp2_with fail
    clear rx0 rx1 rx2 rx3 rx4
    with_reducible refine CI5.out.mono ?_
    rintro e w9 ⟨rfl, rfl⟩
    obtain ⟨-, -, ry0, ry1, ry2, ry3, ry4⟩ := HV6.out.room
    dsimp only at ry0 ry1 ry2 ry3 ry4
    go_wp2_with fail
    clear ry0 ry1 ry2 ry3 ry4
    with_reducible refine CI6.out.mono ?_
    rintro e w10 ⟨rfl, rfl⟩
    clear CI5 CI6
    have hc := HC.out w10 (Below.refl _ _)
    obtain ⟨-, -, ra0, ra1, ra2, ra3, ra4⟩ := HV5.out.room
    dsimp only at ra0 ra1 ra2 ra3 ra4
    obtain ⟨-, -, rb0, rb1, rb2, rb3, rb4⟩ := HV6.out.room
    dsimp only at rb0 rb1 rb2 rb3 rb4
    obtain ⟨-, -, rc0, rc1, rc2, rc3, rc4⟩ := HV8.out.room
    dsimp only at rc0 rc1 rc2 rc3 rc4
    obtain ⟨-, -, rd0, rd1, rd2, rd3, rd4⟩ := HV9.out.room
    dsimp only at rd0 rd1 rd2 rd3 rd4
    rcases HL2.out with ⟨h6, hl6⟩ | ⟨h6, hl6⟩
    · have te : (((nl5 : Int) + (nl6 : Int)) == (nl8 : Int) + (nl9 : Int) - 1) = true := by
        rw [beq_iff_eq]
        have := HL1.out
        omega
      have td : decide (S.data.toList ∈ B) = true := decide_eq_true h6
      obtain ⟨z5, z6, z8, z9⟩ := HN.out
      clear h6 hl6 HL1 HL2 HN HIn HUa HUb HE8 HE9 HV5 HV6 HV8 HV9 HD5 HD6 HD8 HD9 HC
      go_wp2_with fail
      go_ret
      exact ⟨rfl, HB.out⟩
    · have te : (((nl5 : Int) + (nl6 : Int)) == (nl8 : Int) + (nl9 : Int)) = true := by
        rw [beq_iff_eq]
        have := HL1.out
        omega
      have td : decide (S.data.toList ∈ B) = false := decide_eq_false h6
      obtain ⟨z5, z6, z8, z9⟩ := HN.out
      clear h6 hl6 HL1 HL2 HN HIn HUa HUb HE8 HE9 HV5 HV6 HV8 HV9 HD5 HD6 HD8 HD9 HC
      go_wp2_with fail
      go_ret
      exact ⟨rfl, HB.out⟩
  · have CM := Lib.hid (CM.out _ _ _ (mov_not hin))
    rw [show decide (S.data.toList ∈ A) = false from decide_eq_false hin]
    clear hin
    go_wp2_with fail
    clear rx0 rx1 rx2 rx3 rx4 ry0 ry1 ry2 ry3 ry4
    with_reducible refine CM.out.mono ?_
    rintro e wa ⟨p5, p6, vr, rfl, hI5, hI6, hd5, hd6, -, -, hA, hb⟩
    obtain ⟨k5, S5, ql5, nl5, cl5, qh5, nh5, ch5, qz5, nz5, cz5, d5⟩ := p5
    obtain ⟨k6, S6, ql6, nl6, cl6, qh6, nh6, ch6, qz6, nz6, cz6, d6⟩ := p6
    dsimp only [PV.agg]
    obtain ⟨qr, cr, rfl, hv⟩ := ans_text hA 4 (by decide +kernel) ⟨#[58, 48, 13, 10]⟩ (by decide +kernel)
    have hbx : Below wa.heap.size wa ((wa.alloc (.cells #[.int .u8 k5, .string S5, .slice ql5 nl5 cl5, .slice qh5 nh5 ch5, .slice qz5 nz5 cz5] 26)).alloc (.cells #[.int .u8 k6, .string S6, .slice ql6 nl6 cl6, .slice qh6 nh6 ch6, .slice qz6 nz6 cz6] 26)) := (Kit.below1 _ _).trans ((Kit.below1 _ _).mono (Below.size (Kit.below1 _ _)))
    have hbn := hb.trans (hbx.mono hb.size)
    have HV8 := Lib.hid (HV8.out.keep hbn)
    have HV9 := Lib.hid (HV9.out.keep hbn)
    have HB := Lib.hid (HB.out.trans (hbn.mono HB.out.size))
    have HC := Lib.hid (fun W hW => hv W (hbx.trans (Below.mono hW hbx.size)))
    have HV5 := Lib.hid (show VB ((wa.alloc (.cells #[.int .u8 k5, .string S5, .slice ql5 nl5 cl5, .slice qh5 nh5 ch5, .slice qz5 nz5 cz5] 26)).alloc (.cells #[.int .u8 k6, .string S6, .slice ql6 nl6 cl6, .slice qh6 nh6 ch6, .slice qz6 nz6 cz6] 26)) wa.heap.size ⟨k5, S5, ql5, nl5, cl5, qh5, nh5, ch5, qz5, nz5, cz5, d5⟩ from (VB.new hI5).keep (Kit.below1 _ _))
    have HV6 := Lib.hid (show VB ((wa.alloc (.cells #[.int .u8 k5, .string S5, .slice ql5 nl5 cl5, .slice qh5 nh5 ch5, .slice qz5 nz5 cz5] 26)).alloc (.cells #[.int .u8 k6, .string S6, .slice ql6 nl6 cl6, .slice qh6 nh6 ch6, .slice qz6 nz6 cz6] 26)) (wa.heap.size + 1) ⟨k6, S6, ql6, nl6, cl6, qh6, nh6, ch6, qz6, nz6, cz6, d6⟩ from by
      have h := VB.new (p := ⟨k6, S6, ql6, nl6, cl6, qh6, nh6, ch6, qz6, nz6, cz6, d6⟩) (pv_keep hI6 (Kit.below1 wa (.cells #[.int .u8 k5, .string S5, .slice ql5 nl5 cl5, .slice qh5 nh5 ch5, .slice qz5 nz5 cz5] 26)))
      rw [show (wa.alloc (.cells #[.int .u8 k5, .string S5, .slice ql5 nl5 cl5, .slice qh5 nh5 ch5, .slice qz5 nz5 cz5] 26)).heap.size = wa.heap.size + 1 by simp] at h
      exact h)
    have HD5 := Lib.hid (show PV.d ⟨k5, S5, ql5, nl5, cl5, qh5, nh5, ch5, qz5, nz5, cz5, d5⟩ = _ from hd5)
    have HD6 := Lib.hid (show PV.d ⟨k6, S6, ql6, nl6, cl6, qh6, nh6, ch6, qz6, nz6, cz6, d6⟩ = _ from hd6)
    clear hI5 hI6 hd5 hd6 hA hb hbx hbn hv CM
    go_upto_region 9 with fail
    generalize hgg : wa.heap.size = g5 at HV5 HV6 ⊢
    clear hgg
    generalize (wa.alloc (.cells #[.int .u8 k5, .string S5, .slice ql5 nl5 cl5, .slice qh5 nh5 ch5, .slice qz5 nz5 cz5] 26)).alloc (.cells #[.int .u8 k6, .string S6, .slice ql6 nl6 cl6, .slice qh6 nh6 ch6, .slice qz6 nz6 cz6] 26) = w8 at HV5 HV6 HB HC HV8 HV9 ⊢
    have CS1 := Lib.hid (rsame k5 S5 ql5 nl5 cl5 qh5 nh5 ch5 qz5 nz5 cz5 d5 k8 S8 ql8 nl8 cl8 qh8 nh8 ch8 qz8 nz8 cz8 d8 w8 HV5.out.pv HV8.out.pv)
    rw [show sameB d5 d8 = true by rw [show d5 = setV A from HD5.out, show d8 = setV A from HD8.out]; exact same_self _] at CS1
    obtain ⟨-, -, rx0, rx1, rx2, rx3, rx4⟩ := HV5.out.room
    dsimp only at rx0 rx1 rx2 rx3 rx4
    obtain ⟨-, -, ry0, ry1, ry2, ry3, ry4⟩ := HV8.out.room
    dsimp only at ry0 ry1 ry2 ry3 ry4
    go_wp2_with fail
    clear rx0 rx1 rx2 rx3 rx4 ry0 ry1 ry2 ry3 ry4
    with_reducible refine CS1.out.mono ?_
    rintro e w9 ⟨rfl, hb9⟩
    have HV6 := Lib.hid (HV6.out.keep hb9)
    have HV9 := Lib.hid (HV9.out.keep hb9)
    have HB := Lib.hid (HB.out.trans (hb9.mono HB.out.size))
    have HC := Lib.hid (fun W hW => HC.out W (hb9.trans (Below.mono hW hb9.size)))
    clear hb9 CS1
    have CS2 := Lib.hid (rsame k6 S6 ql6 nl6 cl6 qh6 nh6 ch6 qz6 nz6 cz6 d6 k9 S9 ql9 nl9 cl9 qh9 nh9 ch9 qz9 nz9 cz9 d9 w9 HV6.out.pv HV9.out.pv)
    rw [show sameB d6 d9 = true by rw [show d6 = setV B from HD6.out, show d9 = setV B from HD9.out]; exact same_self _] at CS2
    obtain ⟨-, -, rx0, rx1, rx2, rx3, rx4⟩ := HV6.out.room
    dsimp only at rx0 rx1 rx2 rx3 rx4
    obtain ⟨-, -, ry0, ry1, ry2, ry3, ry4⟩ := HV9.out.room
    dsimp only at ry0 ry1 ry2 ry3 ry4
    go_wp2_with fail
    clear rx0 rx1 rx2 rx3 rx4 ry0 ry1 ry2 ry3 ry4
    with_reducible refine CS2.out.mono ?_
    rintro e w10 ⟨rfl, hb9⟩
    have HB := Lib.hid (HB.out.trans (hb9.mono HB.out.size))
    have hc := HC.out w10 hb9
    clear hb9 CS2
    go_wp2_with fail
    go_ret
    exact ⟨rfl, HB.out⟩

end Go.Proofs.YtmdkegamfjkfbaaDoor.setsMoves
