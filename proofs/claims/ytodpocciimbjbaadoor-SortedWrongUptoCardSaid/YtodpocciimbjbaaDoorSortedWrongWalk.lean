/-
  SortedWrong: a value of another type stays as it is, and its reply says so; an error changes nothing; what is handed in stays. Ahead of it: what the law calls of its own.
-/
import Derived.Test.YtodpocciimbjbaaDoorSrtLaws
import Derived.Test.YtodpocciimbjbaaDoorFitW
import Derived.Test.YtodpocciimbjbaaDoorRefVals
import Derived.Test.YtodpocciimbjbaaDoorRefVal3
import Derived.Deep.RegionLaw
import Derived.Deep.QuietTactic
import Derived.Deep.DeepCutAuto
import Derived.BigQuiet
import Derived.StillTailTactics
namespace Go.Proofs.YtodpocciimbjbaaDoor.SrtL
open Go.RowKit Kit StrT RowG BOrd ValT StoT ReplyT ReplyMath ValM BytesIn DoT Low LstT SrtT NumL NumW NumMath ReplyM ValM SrtM SaidT RefR TableMath DoV LawK
open Go.Op (bytesLess)
open RefTab (results_cell_slot)
set_option linter.unusedVariables false
set_option maxRecDepth 100000

theorem id_all : (List.range 6).all (fun i => decide (27 + i < 56 ∧ lowL (cmdAt (27 + i)).name = nameD i ∧ needD i ≤ (cmdAt (27 + i)).ar.natAbs)) = true := by decide +kernel
theorem id_at {i : Nat} (h : i < 6) : 27 + i < 56 ∧ lowL (cmdAt (27 + i)).name = nameD i ∧ needD i ≤ (cmdAt (27 + i)).ar.natAbs := of_decide_eq_true (List.all_eq_true.1 id_all i (List.mem_range.2 h))
theorem wd_drop (A : List (List UInt8)) (k j : Nat) : wd (A.drop k) j = wd A (k + j) := by
  unfold wd
  rw [List.getD_eq_getElem?_getD, List.getD_eq_getElem?_getD, List.getElem?_drop]
theorem tame_fit (i : Nat) (d : V) (A : List (List UInt8)) (hf : FitZ d) (hok : FitT.FitOk (27 + i) A) (hn : needD i ≤ A.length) : Tame i d.z (A.drop 2) := by
  have hw : ∀ j, (wd (A.drop 2) j).length ≤ 281474976710656 := fun j => by rw [wd_drop]; exact Nat.le_trans (wd_le hok.2.1.2 _) (by decide)
  have h8 := hf.n8
  refine ⟨hf.up, hf.nn, by omega, ?_⟩
  match i, hn with
  | 0, hn => exact ⟨by have : 4 ≤ A.length := hn; rw [List.length_drop]; omega, hw 0⟩
  | 1, hn => show (A.drop 2).length ≤ 1048576; have := hok.1; rw [List.length_drop]; omega
  | 2, hn => show 1 ≤ (A.drop 2).length; have : 3 ≤ A.length := hn; rw [List.length_drop]; omega
  | 3, hn => exact ⟨by have : 4 ≤ A.length := hn; rw [List.length_drop]; omega, by omega, hf.lt, hw 0, hw 1⟩
  | 4, _ => trivial
  | i + 5, hn => exact ⟨by have : 4 ≤ A.length := hn; rw [List.length_drop]; omega, hw 0⟩
/-- What a request of any words comes to. -/
def DoX (i : Nat) (d : V) (w : World) (e : Ending) (w' : World) : Prop :=
  ∃ (A : List (List UInt8)) (p : PV) (vr : Value), e = .returned (.tuple #[p.agg, vr]) ∧ p.In w' ∧ p.d = (doD i d A).1 ∧ (∀ j, p.at_ j → w.heap.size ≤ j) ∧ Ans w.heap.size w' vr (doD i d A).2 ∧ Below w.heap.size w w'
set_option maxHeartbeats 8000000 in
theorem do_words (i : Nat) (hi : i < 6) (p : PV) (q : Option Addr) (L : List (List UInt8)) (n c : Nat) (w : World) (hp : p.In w) (hS : p.S.size ≤ 1048576) (hg : Gd w) (hn : L.length = n) (hs : StrT.Ss w q L) (hz : ∀ s ∈ L, s.length ≤ 140737488351232) (hcm : n ≤ 9223372036854775807) (hfl : (p.d.kind = 0 ∨ p.d.kind = 5) → FitZ p.d) :
    Calls Tryd.prog 9 #[p.agg, .int .i64 ((27 + i : Nat) : Int), .slice q n c] w (DoX i p.d w) := by
  obtain ⟨h56, hnm, hnd⟩ := id_at hi
  obtain ⟨k, S, ql, nl, cl, qh, nh, ch, qz, nz, cz, d⟩ := p
  have HP := Lib.hid hp
  have HD := Lib.hid (DB.new w #[.int .u8 k, .string S, .slice ql nl cl, .slice qh nh ch, .slice qz nz cz] #[.int .u8 0, .string ⟨#[]⟩, .slice none 0 0, .slice none 0 0, .slice none 0 0])
  have CF := Lib.hid (fun W (h : Below w.heap.size w W) => FitT.rfit (27 + i) h56 q L n c W hn (hs.keep h) hcm hz)
  have CD := Lib.hid (fun W (h : Below w.heap.size w W) (qa : Option Addr) (A : List (List UInt8)) (m ca : Nat) (hm : A.length = m) (hA : StrT.Ss W qa A) (hmc : m ≤ ca) (hok : FitT.FitOk (27 + i) A) => (show Calls Tryd.prog 11 #[.agg #[.int .u8 k, .string S, .slice ql nl cl, .slice qh nh ch, .slice qz nz cz], .slice qa m ca] W (DoN (doD i d A).1 (doD i d A).2 W) from
    do_any i hi ⟨k, S, ql, nl, cl, qh, nh, ch, qz, nz, cz, d⟩ qa A m ca W (pv_keep hp h) hS (hg.keep h) hm hmc (by rw [← hm]; exact Nat.le_trans hnd hok.2.2.1) hA (Nat.le_trans (wd_le hok.2.1.2 0) (by decide)) (by unfold nmL; rw [hok.2.1.1]; exact hnm) (fun hk => tame_fit i d A (hfl hk) hok (Nat.le_trans hnd hok.2.2.1))))
  show Calls Tryd.prog 9 #[.agg #[.int .u8 k, .string S, .slice ql nl cl, .slice qh nh ch, .slice qz nz cz], .int .i64 ((27 + i : Nat) : Int), .slice q n c] w _
  clear hp hS hg hn hs hz hnm hnd hfl
  go_enter Tryd.func9, Tryd.ntmps9
  go_wp2_with fail
  generalize ((w.alloc _).alloc _) = W2 at HD ⊢
  obtain ⟨-, -, b0, b1, b2, b3, b4⟩ := HD.out.room
  generalize ((27 + i : Nat) : Int) = ii at CF ⊢
  go_region_law (first
    | (go_simp; (with_reducible refine (CF.out _ (by first | exact HD.out.bl | exact HD.out.bl.drew)).mono ?_); rintro e w4 ⟨v, A, rfl, hA, hok, hb4⟩; dsimp only
       have hb4' : Below W2.heap.size W2 w4 := by first | exact hb4 | exact c_dr hb4
       have HD4 := Lib.hid (HD.out.keep hb4')
       obtain ⟨qa, ca, rfl, hSs, hAx⟩ := hA
       have hmc := hAx.2.1
       have HSs := Lib.hid hSs
       have HOk := Lib.hid hok
       have HAl := Lib.hid (rfl : A.length = A.length)
       generalize hm : A.length = m at HAl hmc ⊢
       have HMC := Lib.hid hmc
       have HM := Lib.hid hm
       obtain ⟨-, -, c0, c1, c2, c3, c4⟩ := HD4.out.room
       clear hSs hok hb4 hb4' hm hmc hAx)
    | (go_simp; (with_reducible refine (CD.out _ HD4.out.bl qa A m ca HM.out HSs.out HMC.out HOk.out).mono ?_); rintro e w5 ⟨p2, vr, rfl, hI, hd, ha, hA, hb5⟩; dsimp only [PV.agg]
       obtain ⟨k2, S2, ql2, nl2, cl2, qh2, nh2, ch2, qz2, nz2, cz2, d2⟩ := p2
       dsimp only
       have HD5 := Lib.hid (HD4.out.keep hb5)
       have HI5 := Lib.hid hI
       have HE5 := Lib.hid (show d2 = _ from hd)
       have HA5 := Lib.hid hA
       have HT5 := Lib.hid (show ∀ j, PV.at_ ⟨k2, S2, ql2, nl2, cl2, qh2, nh2, ch2, qz2, nz2, cz2, d2⟩ j → w4.heap.size ≤ j from ha)
       have HCs := Lib.hid (show (Tryd.prog.info? 26).map (·.size) = some (#[.int .u8 k2, .string S2, .slice ql2 nl2 cl2, .slice qh2 nh2 ch2, .slice qz2 nz2 cz2] : Array Value).size from val_size)
       obtain ⟨-, -, r0, r1, r2, r3, r4⟩ := HD5.out.roomR
       have f0 := HD5.out.roomR.frz 0
       have f1 := HD5.out.roomR.frz 1
       have f2 := HD5.out.roomR.frz 2
       have f3 := HD5.out.roomR.frz 3
       have f4 := HD5.out.roomR.frz 4
       clear hI hd ha hA hb5))
  all_goals
    have HHe := Lib.hid (val_five HD5.out.re (.int .u8 k2) (.string S2) (.slice ql2 nl2 cl2) (.slice qh2 nh2 ch2) (.slice qz2 nz2 cz2))
    have HE := Lib.hid (do_five HD5.out ⟨k2, S2, ql2, nl2, cl2, qh2, nh2, ch2, qz2, nz2, cz2, d2⟩ (fun _ => False) _ _ _ vr HI5.out HE5.out (fun j hj => Or.inr (by have := HT5.out j hj; have := HD4.out.sz; omega)) (fun j hj => by have := HT5.out j hj; have := HD4.out.sz; omega) HA5.out (by have := HD4.out.sz; omega))
    go_wp2_with fail
    exact bodyPost_ret (results_cell_slot rfl _ _ (w.heap.size + 1) 26 #[.int .u8 k2, .string S2, .slice ql2 nl2 cl2, .slice qh2 nh2 ch2, .slice qz2 nz2 cz2] (0, 0) _ vr rfl HHe.out Tryd.underlying26 rfl HCs.out rfl) rfl (by
      obtain ⟨p, vr, h1, h2, h3, h4, h5, h6⟩ := HE.out
      exact ⟨A, p, vr, h1, h2, h3, fun j hj => (h4 j hj).resolve_left (fun h => h), h5, h6⟩)

/-- A reply: it is something; an error changes nothing. -/
theorem reply_ok (i : Nat) (d : V) (A : List (List UInt8)) (hk : d.kind = 0 ∨ d.kind = 5) (hr : d = zV d.z) : ∃ (x : UInt8) (r : List UInt8), (doD i d A).2 = x :: r ∧ (x ≠ 45 ∨ x = 45 ∧ (doD i d A).1 = d) := by
  rw [doD_right hk]
  match i with
  | 0 =>
    simp only [rowD]
    split
    · exact ⟨58, _, rfl, Or.inl (by decide)⟩
    · exact ⟨45, _, rfl, Or.inr ⟨rfl, hr.symm⟩⟩
  | 1 => exact ⟨58, _, rfl, Or.inl (by decide)⟩
  | 2 =>
    simp only [rowD]
    split
    · exact ⟨36, _, rfl, Or.inl (by decide)⟩
    · exact ⟨36, _, rfl, Or.inl (by decide)⟩
  | 3 =>
    simp only [rowD]
    split
    · exact ⟨42, _, rfl, Or.inl (by decide)⟩
    · exact ⟨45, _, rfl, Or.inr ⟨rfl, hr.symm⟩⟩
  | 4 => exact ⟨58, _, rfl, Or.inl (by decide)⟩
  | i + 5 =>
    simp only [rowD]
    split
    · split
      · exact ⟨36, _, rfl, Or.inl (by decide)⟩
      · exact ⟨45, _, rfl, Or.inr ⟨rfl, hr.symm⟩⟩
    · exact ⟨45, _, rfl, Or.inr ⟨rfl, hr.symm⟩⟩

end Go.Proofs.YtodpocciimbjbaaDoor.SrtL
namespace Go.Proofs.YtodpocciimbjbaaDoor.sortedWrong
open Go.RowKit Kit StrT RowG BOrd ValT StoT ReplyT ReplyMath ValM BytesIn DoT Low LstT SrtT NumL NumW NumMath ReplyM ValM SrtM SaidT RefR DoV LawK SrtL RefV TableMath
set_option linter.unusedVariables false
set_option maxRecDepth 100000
-- ASKS: NumL.Gd
-- UPTO
-- VSZ: s
-- VUP: z
-- VZN


theorem same_self (d : V) : sameB d d = true := decide_eq_true rfl
theorem fit_s (d : V) : (fitV d).s.length ≤ 40 := by
  unfold fitV
  repeat' split
  all_goals first | (show (List.take 40 _).length ≤ 40; rw [List.length_take]; omega) | exact Nat.zero_le _
theorem fit_kind (d : V) : (fitV d).kind ≤ 255 := by
  unfold fitV v0
  repeat' split
  all_goals simp
theorem ans_first {base : Nat} {w : World} {v : Value} {x : UInt8} {r : List UInt8} (h : Ans base w v (x :: r)) : ∃ b off n c, v = .slice (some ⟨b, off, none⟩) (n + 1) c ∧ w.cell? ⟨b, off, none⟩ = some (.int .u8 (x.toNat : Int)) ∧ b < w.heap.size := by
  obtain ⟨p, c, rfl, hB, -⟩ := h
  obtain ⟨b, off, rfl, hlt, hc⟩ := hB (by simp)
  exact ⟨b, off, r.length, c, rfl, hc 0 (by simp), hlt⟩

set_option maxHeartbeats 16000000 in
theorem walk (k : Int) (S : ByteArray) (ql : Option Addr) (nl cl : Nat) (qh : Option Addr) (nh ch : Nat) (qz : Option Addr) (nz cz : Nat) (d : V) (n : Int) (q : Option Addr) (L : List (List UInt8)) (m c : Nat) (w : World) (H : VArg w k S ql nl cl qh nh ch qz nz cz d) (hS : S.size ≤ 140737488351232) (hdf : (mnames d.z).flatten.length ≤ 1048576) (hdn : ∀ x ∈ d.z, inI x.n) (n0 : 0 ≤ n) (n1 : n ≤ 255) (hL : L.length = m) (h : StrT.Ss w q L) (hz : ∀ s ∈ L, s.length ≤ 140737488351232) (hcap : m ≤ c) (hcm : c ≤ 9223372036854775807) (hnil : q = none → c = 0) (hup : L.flatten.length + L.length ≤ 1048576) (hg : Gd w) :
    Calls Tryd.prog 3 #[.agg #[.int .u8 k, .string S, .slice ql nl cl, .slice qh nh ch, .slice qz nz cz], .int .u8 n, .slice q m c] w fun e w' => e = .returned (.bool true) ∧ Below w.heap.size w w' := by
  obtain ⟨N, rfl⟩ := Int.eq_ofNat_of_zero_le n0
  obtain ⟨i, hi⟩ : ∃ i, i = N % 6 := ⟨_, rfl⟩
  have hi6 : i < 6 := by omega
  have hj1 : (N : Int) % 6 = (i : Int) := by omega
  have hj3 : (i : Int) < 6 := by omega
  have hj4 : (0 : Int) ≤ (i : Int) := by omega
  have HJ := Lib.hid hj1
  clear hi hj1
  have HG := Lib.hid (fun W (h : Below w.heap.size w W) => hg.keep h)
  have C0 := Lib.hid (fun W (h : Below w.heap.size w W) => shown_any W (hg.keep h))
  have CFi := Lib.hid (fun W (h : Below w.heap.size w W) => rfit k S ql nl cl qh nh ch qz nz cz d W (H.keep h) hS)
  have CW := Lib.hid (fun Y (hB : Below w.heap.size w Y) k8 S8 ql8 nl8 cl8 qh8 nh8 ch8 qz8 nz8 cz8 d8 (hpv : PV.In Y ⟨k8, S8, ql8, nl8, cl8, qh8, nh8, ch8, qz8, nz8, cz8, d8⟩) (h8 : S8.size ≤ 1048576) (h8f : (d8.kind = 0 ∨ d8.kind = 5) → FitZ d8) => (show Calls Tryd.prog 9 #[.agg #[.int .u8 k8, .string S8, .slice ql8 nl8 cl8, .slice qh8 nh8 ch8, .slice qz8 nz8 cz8], .int .i64 (27 + (i : Int)), .slice q m c] Y (DoX i d8 Y) from by
    have hx := do_words i hi6 ⟨k8, S8, ql8, nl8, cl8, qh8, nh8, ch8, qz8, nz8, cz8, d8⟩ q L m c Y hpv h8 (hg.keep hB) hL (h.keep hB) hz (Nat.le_trans hcap hcm) h8f
    rw [show ((27 + i : Nat) : Int) = 27 + (i : Int) by omega] at hx
    exact hx))
  have HDF := Lib.hid (show (mnames d.z).flatten.length ≤ 1048576 ∧ ∀ x ∈ d.z, inI x.n from ⟨hdf, hdn⟩)
  have HBx := Lib.hid (Kit.below1 w (.cells #[.int .u8 k, .string S, .slice ql nl cl, .slice qh nh ch, .slice qz nz cz] 26))
  have HCx := Lib.hid (show VCells (w.alloc (.cells #[.int .u8 k, .string S, .slice ql nl cl, .slice qh nh ch, .slice qz nz cz] 26)) w.heap.size _ _ _ _ _ from VCells.of (heap_alloc_last w _))
  clear h hz hg hnil H hS hL hi6 hup hdf hdn hcap hcm
  go_enter Tryd.func3, Tryd.ntmps3
  go_upto_region 1 with fail
  generalize w.alloc (.cells #[.int .u8 k, .string S, .slice ql nl cl, .slice qh nh ch, .slice qz nz cz] 26) = w0 at HBx HCx ⊢
  go_wp2_with fail
  with_reducible refine (C0.out w0 HBx.out).mono ?_
  rintro e w1 ⟨rfl, hb1⟩
  have HB := Lib.hid (HBx.out.trans (hb1.mono HBx.out.size))
  have HCx := Lib.hid (HCx.out.keep hb1)
  obtain ⟨-, -, a0, a1, a2, a3, a4⟩ := HCx.out
  clear hb1 HBx C0
  go_wp2_with fail
  clear a0 a1 a2 a3 a4
  with_reducible refine (CFi.out w1 HB.out).mono ?_
  rintro e w2 ⟨v, rfl, hA, hb⟩
  obtain ⟨p8, rfl, hI, hd, -, -⟩ := pv_of hA (fit_kind d) (fit_len d).1 (fit_len d).2.1 (fit_len d).2.2
  obtain ⟨k8, S8, ql8, nl8, cl8, qh8, nh8, ch8, qz8, nz8, cz8, d8⟩ := p8
  dsimp only [PV.agg]
  have HS8 := Lib.hid (show S8.size ≤ 1048576 by
    have e := VIn.es hI
    have e2 := fit_s d
    rw [← str_len, show S8.data.toList = d8.s from e, show d8 = fitV d from hd]
    omega)
  have HE8 := Lib.hid (show (d8.kind = 0 ∨ d8.kind = 5) → FitZ d8 from by rw [show d8 = fitV d from hd]; exact fit_z d HDF.out.1 HDF.out.2)
  have hn : True := trivial
  have hbn := hb.trans ((Kit.below1 w2 (.cells #[.int .u8 k8, .string S8, .slice ql8 nl8 cl8, .slice qh8 nh8 ch8, .slice qz8 nz8 cz8] 26)).mono hb.size)
  have HCx := Lib.hid (HCx.out.keep hbn)
  have HB := Lib.hid (HB.out.trans (hbn.mono HB.out.size))
  have HV8 := Lib.hid (show VB _ w2.heap.size ⟨k8, S8, ql8, nl8, cl8, qh8, nh8, ch8, qz8, nz8, cz8, d8⟩ from VB.new hI)
  have HD8 := Lib.hid (show PV.d ⟨k8, S8, ql8, nl8, cl8, qh8, nh8, ch8, qz8, nz8, cz8, d8⟩ = _ from hd)
  have HL8 := Lib.hid (show w1.heap.size ≤ w2.heap.size from Below.size hb)
  clear hI hd hn hA hb hbn
  go_upto_region 3 with fail
  generalize hgg : w2.heap.size = g8 at HV8 HL8 ⊢
  clear hgg
  generalize w2.alloc (.cells #[.int .u8 k8, .string S8, .slice ql8 nl8 cl8, .slice qh8 nh8 ch8, .slice qz8 nz8 cz8] 26) = w3 at HV8 HCx HB ⊢
  obtain ⟨-, -, a0, a1, a2, a3, a4⟩ := HCx.out
  go_wp2_with fail
  clear a0 a1 a2 a3 a4
  with_reducible refine (CFi.out w3 HB.out).mono ?_
  rintro e w2 ⟨v, rfl, hA, hb⟩
  obtain ⟨p7, rfl, hI, hd, -, -⟩ := pv_of hA (fit_kind d) (fit_len d).1 (fit_len d).2.1 (fit_len d).2.2
  obtain ⟨k7, S7, ql7, nl7, cl7, qh7, nh7, ch7, qz7, nz7, cz7, d7⟩ := p7
  dsimp only [PV.agg]
  have hn : True := trivial
  have hbn := hb.trans ((Kit.below1 w2 (.cells #[.int .u8 k7, .string S7, .slice ql7 nl7 cl7, .slice qh7 nh7 ch7, .slice qz7 nz7 cz7] 26)).mono hb.size)
  have HV8 := Lib.hid (HV8.out.keep hbn)
  have HB := Lib.hid (HB.out.trans (hbn.mono HB.out.size))
  have HV7 := Lib.hid (show VB _ w2.heap.size ⟨k7, S7, ql7, nl7, cl7, qh7, nh7, ch7, qz7, nz7, cz7, d7⟩ from VB.new hI)
  have HD7 := Lib.hid (show PV.d ⟨k7, S7, ql7, nl7, cl7, qh7, nh7, ch7, qz7, nz7, cz7, d7⟩ = _ from hd)
  have HL7 := Lib.hid (show w3.heap.size ≤ w2.heap.size from Below.size hb)
  clear hI hd hn hA hb hbn
  go_upto_region 4 with fail
  generalize hgg : w2.heap.size = g7 at HV7 HL7 ⊢
  clear hgg
  generalize w2.alloc (.cells #[.int .u8 k7, .string S7, .slice ql7 nl7 cl7, .slice qh7 nh7 ch7, .slice qz7 nz7 cz7] 26) = w4 at HV7 HV8 HB ⊢
  clear HCx CFi HL8 HL7
  obtain ⟨-, -, ra0, ra1, ra2, ra3, ra4⟩ := HV8.out.room
  dsimp only at ra0 ra1 ra2 ra3 ra4
  go_wp2_with fail
  rw [HJ.out]
  with_reducible refine (CW.out w4 HB.out k8 S8 ql8 nl8 cl8 qh8 nh8 ch8 qz8 nz8 cz8 d8 HV8.out.pv HS8.out (fun hk => HE8.out hk)).mono ?_
  rintro e wa ⟨A, p9, vr9, rfl, hI, hd, hn, hA, hb⟩
  obtain ⟨k9, S9, ql9, nl9, cl9, qh9, nh9, ch9, qz9, nz9, cz9, d9⟩ := p9
  dsimp only [PV.agg]
  have HA := Lib.hid (hA.keep (Kit.below1 wa (.cells #[.int .u8 k9, .string S9, .slice ql9 nl9 cl9, .slice qh9 nh9 ch9, .slice qz9 nz9 cz9] 26)))
  clear ra0 ra1 ra2 ra3 ra4
  have hbn := hb.trans ((Kit.below1 wa (.cells #[.int .u8 k9, .string S9, .slice ql9 nl9 cl9, .slice qh9 nh9 ch9, .slice qz9 nz9 cz9] 26)).mono hb.size)
  have HV8 := Lib.hid (HV8.out.keep hbn)
  have HV7 := Lib.hid (HV7.out.keep hbn)
  have HB := Lib.hid (HB.out.trans (hbn.mono HB.out.size))
  have HV9 := Lib.hid (show VB _ wa.heap.size ⟨k9, S9, ql9, nl9, cl9, qh9, nh9, ch9, qz9, nz9, cz9, d9⟩ from VB.new hI)
  have HD9 := Lib.hid (show PV.d ⟨k9, S9, ql9, nl9, cl9, qh9, nh9, ch9, qz9, nz9, cz9, d9⟩ = _ from hd)
  have HL9 := Lib.hid (show w4.heap.size ≤ wa.heap.size from Below.size hb)
  clear hI hd hn hA hb hbn
  go_upto_region 5 with fail
  generalize hgg : wa.heap.size = g9 at HV9 HL9 ⊢
  clear hgg
  generalize wa.alloc (.cells #[.int .u8 k9, .string S9, .slice ql9 nl9 cl9, .slice qh9 nh9 ch9, .slice qz9 nz9 cz9] 26) = w5 at HV9 HV8 HV7 HB HA ⊢
  clear CW HL9 HJ
  have CS1 := Lib.hid (RefV.rsame k8 S8 ql8 nl8 cl8 qh8 nh8 ch8 qz8 nz8 cz8 d8 k7 S7 ql7 nl7 cl7 qh7 nh7 ch7 qz7 nz7 cz7 d7 w5 HV8.out.pv HV7.out.pv)
  rw [show sameB d8 d7 = true by rw [show d8 = fitV d from HD8.out, show d7 = fitV d from HD7.out]; exact same_self _] at CS1
  obtain ⟨-, -, ra0, ra1, ra2, ra3, ra4⟩ := HV8.out.room
  dsimp only at ra0 ra1 ra2 ra3 ra4
  obtain ⟨-, -, rb0, rb1, rb2, rb3, rb4⟩ := HV7.out.room
  dsimp only at rb0 rb1 rb2 rb3 rb4
  go_wp2_with fail
  clear ra0 ra1 ra2 ra3 ra4 rb0 rb1 rb2 rb3 rb4
  with_reducible refine CS1.out.mono ?_
  rintro e w6 ⟨rfl, hb⟩
  have HB := Lib.hid (HB.out.trans (hb.mono HB.out.size))
  have HV8 := Lib.hid (HV8.out.keep hb)
  have HV9 := Lib.hid (HV9.out.keep hb)
  have HA := Lib.hid (HA.out.keep hb)
  clear hb CS1 HV7 HD7
  have CS := Lib.hid (RefV.rsame k9 S9 ql9 nl9 cl9 qh9 nh9 ch9 qz9 nz9 cz9 d9 k8 S8 ql8 nl8 cl8 qh8 nh8 ch8 qz8 nz8 cz8 d8 w6 HV9.out.pv HV8.out.pv)
  obtain ⟨-, -, ra0, ra1, ra2, ra3, ra4⟩ := HV9.out.room
  dsimp only at ra0 ra1 ra2 ra3 ra4
  obtain ⟨-, -, rb0, rb1, rb2, rb3, rb4⟩ := HV8.out.room
  dsimp only at rb0 rb1 rb2 rb3 rb4
  go_wp2_with fail
  clear ra0 ra1 ra2 ra3 ra4 rb0 rb1 rb2 rb3 rb4
  with_reducible refine CS.out.mono ?_
  rintro e w7 ⟨rfl, hb7⟩
  have HB := Lib.hid (HB.out.trans (hb7.mono HB.out.size))
  have HV8 := Lib.hid (HV8.out.keep hb7)
  have HA := Lib.hid (HA.out.keep hb7)
  clear hb7 CS HV9
  obtain ⟨-, -, rv0, rv1, rv2, rv3, rv4⟩ := HV8.out.room
  dsimp only at rv0 rv1 rv2 rv3 rv4
  have hK : k8 = (d8.kind : Int) := VIn.ek HV8.out.pv
  rcases kinds d8 with hk | hk
  · obtain ⟨x, r, hr, hx⟩ := reply_ok i d8 A hk (HE8.out hk).eq
    have hA := HA.out
    rw [hr] at hA
    obtain ⟨b, off, N9, c9, rfl, hc9, -⟩ := ans_first hA
    have l1 : (((N9 + 1 : Nat) : Int) == 0) = false := by rw [beq_eq_false_iff_ne]; omega
    have l2 : (0 : Int) < ((N9 + 1 : Nat) : Int) := by omega
    have l3 : (0 : Nat) < N9 + 1 := by omega
    obtain ⟨N8, hN8⟩ : ∃ N8, N8 = N9 + 1 := ⟨_, rfl⟩
    rw [← hN8] at l1 l2 l3 ⊢
    have tt : (k8 != 0) = false ∨ (k8 != 0) = true ∧ (k8 != 5) = false := by
      rcases hk with h | h
      · left; rw [hK, h]; rfl
      · right; rw [hK, h]; exact ⟨rfl, rfl⟩
    clear hN8 hA hr HA
    rcases hx with hx | ⟨rfl, hx⟩
    · have tx : ((x.toNat : Int) != 45) = true := by
        rw [bne_iff_ne]
        intro h
        apply hx
        have h2 : x.toNat = 45 := by omega
        exact UInt8.toNat_inj.1 (by rw [h2]; rfl)
      generalize sameB d9 d8 = bb
      clear hx hK HD9 HE8 HS8
      rcases tt with t0 | ⟨t0, t1⟩
      all_goals
        go_wp2_with fail
        go_ret
        exact ⟨rfl, HB.out⟩
    · have hs : sameB d9 d8 = true := by rw [show d9 = _ from HD9.out, hx]; exact same_self d8
      rw [hs]
      have tx : ((((45 : UInt8)).toNat : Int) != 45) = false := by decide
      have hc9 : w7.cell? ⟨b, off, none⟩ = some (.int .u8 45) := hc9
      clear hx hK HD9 hs HE8 HS8
      rcases tt with t0 | ⟨t0, t1⟩
      all_goals
        go_wp2_with fail
        go_ret
        exact ⟨rfl, HB.out⟩
  · have hs : sameB d9 d8 = true := by rw [show d9 = _ from HD9.out, doD_wrong hk]; exact same_self d8
    rw [hs]
    have hA := HA.out
    rw [doD_wrong hk] at hA
    dsimp only at hA
    obtain ⟨q9, c9, rfl, hv⟩ := ans_text hA 68 (by decide +kernel) ⟨#[45, 87, 82, 79, 78, 71, 84, 89, 80, 69, 32, 79, 112, 101, 114, 97, 116, 105, 111, 110, 32, 97, 103, 97, 105, 110, 115, 116, 32, 97, 32, 107, 101, 121, 32, 104, 111, 108, 100, 105, 110, 103, 32, 116, 104, 101, 32, 119, 114, 111, 110, 103, 32, 107, 105, 110, 100, 32, 111, 102, 32, 118, 97, 108, 117, 101, 13, 10]⟩ (by decide +kernel)
    have hv := hv w7 (Below.refl _ _)
    have t0 : (k8 != 0) = true := bne_iff_ne.2 (by rw [hK]; omega)
    have t1 : (k8 != 5) = true := bne_iff_ne.2 (by rw [hK]; omega)
    clear hK HD9 hs hA HA hk HE8 HS8
    go_wp2_with fail
    go_ret
    exact ⟨rfl, HB.out⟩

end Go.Proofs.YtodpocciimbjbaaDoor.sortedWrong
