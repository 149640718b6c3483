/-
  What TextsWrong calls of its own: a request of a command of this layer, of any words; this layer's commands.
-/
import Derived.Test.YthiaflnlmabikaaDoorTxtLaw
import Derived.Test.YthiaflnlmabikaaDoorFitW
import Derived.Deep.RegionLaw
namespace Go.Proofs.YthiaflnlmabikaaDoor.TxtL
open Go.RowKit Kit StrT RowG BOrd ValT StoT ReplyT ReplyMath ValM BytesIn DoT Low MapT LstT TxtT NumL NumW NumMath ReplyM TxtM SaidT RefR TableMath
open RefTab (results_cell_slot)
set_option linter.unusedVariables false
set_option maxRecDepth 100000

/-- This layer's commands, by their place in the table. -/
def idN (i : Nat) : Nat := match i with | 0 => 0 | 1 => 2 | 2 => 3 | 3 => 4 | 4 => 5 | _ => 6
/-- Which of this layer's commands it is. -/
def dN (i : Nat) : Nat := match i with | 0 => 0 | 1 => 2 | 2 => 3 | 3 => 4 | 4 => 5 | _ => 1
theorem id_all : (List.range 6).all (fun i => decide (idN i < 56 ∧ dN i < 6 ∧ lowL (cmdAt (idN i)).name = nameD (dN i) ∧ needD (dN i) ≤ (cmdAt (idN i)).ar.natAbs)) = true := by decide +kernel
theorem id_at {i : Nat} (h : i < 6) : idN i < 56 ∧ dN i < 6 ∧ lowL (cmdAt (idN i)).name = nameD (dN i) ∧ needD (dN i) ≤ (cmdAt (idN i)).ar.natAbs := of_decide_eq_true (List.all_eq_true.1 id_all i (List.mem_range.2 h))
set_option maxHeartbeats 4000000 in
theorem ids_any (i : Nat) (hi : i < 6) (w : World) : Calls Tryd.prog 10 #[] w fun e w' => ∃ g, e = .returned (.slice (some ⟨g, 0, none⟩) 6 6) ∧ g < w'.heap.size ∧ w'.cell? ⟨g, i, none⟩ = some (.int .i64 (idN i : Int)) ∧ Below w.heap.size w w' := by
  have HC := Lib.hid (show (w.alloc (.cells #[.int .i64 0, .int .i64 2, .int .i64 3, .int .i64 4, .int .i64 5, .int .i64 6] 3)).cell? ⟨w.heap.size, i, none⟩ = some (.int .i64 (idN i : Int)) by
    match i, hi with
    | 0, _ => simp [World.cell?_alloc_mark, idN]
    | 1, _ => simp [World.cell?_alloc_mark, idN]
    | 2, _ => simp [World.cell?_alloc_mark, idN]
    | 3, _ => simp [World.cell?_alloc_mark, idN]
    | 4, _ => simp [World.cell?_alloc_mark, idN]
    | 5, _ => simp [World.cell?_alloc_mark, idN])
  go_enter Tryd.func10, Tryd.ntmps10
  go_wp2_with fail
  go_ret
  exact ⟨_, rfl, by simp, HC.out, Kit.below1 _ _⟩
/-- What a request of any words comes to. -/
def DoX (i : Nat) (d : V) (w : World) (e : Ending) (w' : World) : Prop :=
  ∃ (A : List (List UInt8)) (p : PV) (vr : Value), e = .returned (.tuple #[p.agg, vr]) ∧ p.In w' ∧ p.d = (doD i d A).1 ∧ (∀ j, p.at_ j → w.heap.size ≤ j) ∧ Ans w.heap.size w' vr (doD i d A).2 ∧ Below w.heap.size w w'
set_option maxHeartbeats 8000000 in
theorem do_words (i : Nat) (hi : i < 6) (p : PV) (q : Option Addr) (L : List (List UInt8)) (n c : Nat) (w : World) (hp : p.In w) (hS : p.S.size ≤ 1048576) (hg : Gd w) (hn : L.length = n) (hs : StrT.Ss w q L) (hz : ∀ s ∈ L, s.length ≤ 140737488351232) (hcm : n ≤ 9223372036854775807) :
    Calls Tryd.prog 9 #[p.agg, .int .i64 (idN i : Int), .slice q n c] w (DoX (dN i) p.d w) := by
  obtain ⟨h56, hd6, hnm, hnd⟩ := id_at hi
  obtain ⟨k, S, ql, nl, cl, qh, nh, ch, qz, nz, cz, d⟩ := p
  have HP := Lib.hid hp
  have HD := Lib.hid (DB.new w #[.int .u8 k, .string S, .slice ql nl cl, .slice qh nh ch, .slice qz nz cz] #[.int .u8 0, .string ⟨#[]⟩, .slice none 0 0, .slice none 0 0, .slice none 0 0])
  have CF := Lib.hid (fun W (h : Below w.heap.size w W) => FitT.rfit (idN i) h56 q L n c W hn (hs.keep h) hcm hz)
  have CD := Lib.hid (fun W (h : Below w.heap.size w W) (qa : Option Addr) (A : List (List UInt8)) (m ca : Nat) (hm : A.length = m) (hA : StrT.Ss W qa A) (hok : FitT.FitOk (idN i) A) => (show Calls Tryd.prog 12 #[.agg #[.int .u8 k, .string S, .slice ql nl cl, .slice qh nh ch, .slice qz nz cz], .slice qa m ca] W (DoP (fun _ => False) (doD (dN i) d A).1 (doD (dN i) d A).2 W) from
    do_any (dN i) hd6 ⟨k, S, ql, nl, cl, qh, nh, ch, qz, nz, cz, d⟩ qa A m ca W (pv_keep hp h) hS (hg.keep h) hm (by rw [← hm]; exact Nat.le_trans hnd hok.2.2.1) hA (wd_le (fun s hs => Nat.le_trans (hok.2.1.2 s hs) (by decide))) (by unfold nmL; rw [hok.2.1.1]; exact hnm)))
  show Calls Tryd.prog 9 #[.agg #[.int .u8 k, .string S, .slice ql nl cl, .slice qh nh ch, .slice qz nz cz], .int .i64 (idN i : Int), .slice q n c] w _
  clear hp hS hg hn hs hz hnm hnd
  go_enter Tryd.func9, Tryd.ntmps9
  go_wp2_with fail
  generalize ((w.alloc _).alloc _) = W2 at HD ⊢
  obtain ⟨-, -, b0, b1, b2, b3, b4⟩ := HD.out.room
  generalize (idN i : Int) = ii at CF ⊢
  go_region_law (first
    | (go_simp; (with_reducible refine (CF.out _ (by first | exact HD.out.bl | exact HD.out.bl.drew)).mono ?_); rintro e w4 ⟨v, A, rfl, hA, hok, hb4⟩; dsimp only
       have hb4' : Below W2.heap.size W2 w4 := by first | exact hb4 | exact c_dr hb4
       have HD4 := Lib.hid (HD.out.keep hb4')
       obtain ⟨qa, ca, rfl, hSs, -⟩ := hA
       have HSs := Lib.hid hSs
       have HOk := Lib.hid hok
       have HAl := Lib.hid (rfl : A.length = A.length)
       generalize hm : A.length = m at HAl ⊢
       have HM := Lib.hid hm
       obtain ⟨-, -, c0, c1, c2, c3, c4⟩ := HD4.out.room
       clear hSs hok hb4 hb4' hm)
    | (go_simp; (with_reducible refine (CD.out _ HD4.out.bl qa A m ca HM.out HSs.out HOk.out).mono ?_); rintro e w5 ⟨p2, vr, rfl, hI, hd, ha, hA, hb5⟩; dsimp only [PV.agg]
       obtain ⟨k2, S2, ql2, nl2, cl2, qh2, nh2, ch2, qz2, nz2, cz2, d2⟩ := p2
       dsimp only
       have HD5 := Lib.hid (HD4.out.keep hb5)
       have HI5 := Lib.hid hI
       have HE5 := Lib.hid (show d2 = _ from hd)
       have HA5 := Lib.hid hA
       have HT5 := Lib.hid (show ∀ j, PV.at_ ⟨k2, S2, ql2, nl2, cl2, qh2, nh2, ch2, qz2, nz2, cz2, d2⟩ j → w4.heap.size ≤ j from fun j hj => (ha j hj).resolve_left (fun h => h))
       have HCs := Lib.hid (show (Tryd.prog.info? 26).map (·.size) = some (#[.int .u8 k2, .string S2, .slice ql2 nl2 cl2, .slice qh2 nh2 ch2, .slice qz2 nz2 cz2] : Array Value).size from val_size)
       obtain ⟨-, -, r0, r1, r2, r3, r4⟩ := HD5.out.roomR
       have f0 := HD5.out.roomR.frz 0
       have f1 := HD5.out.roomR.frz 1
       have f2 := HD5.out.roomR.frz 2
       have f3 := HD5.out.roomR.frz 3
       have f4 := HD5.out.roomR.frz 4
       clear hI hd ha hA hb5))
  all_goals
    have HHe := Lib.hid (val_five HD5.out.re (.int .u8 k2) (.string S2) (.slice ql2 nl2 cl2) (.slice qh2 nh2 ch2) (.slice qz2 nz2 cz2))
    have HE := Lib.hid (do_five HD5.out ⟨k2, S2, ql2, nl2, cl2, qh2, nh2, ch2, qz2, nz2, cz2, d2⟩ (fun _ => False) _ _ _ vr HI5.out HE5.out (fun j hj => Or.inr (by have := HT5.out j hj; have := HD4.out.sz; omega)) (fun j hj => by have := HT5.out j hj; have := HD4.out.sz; omega) HA5.out (by have := HD4.out.sz; omega))
    go_wp2_with fail
    exact bodyPost_ret (results_cell_slot rfl _ _ (w.heap.size + 1) 26 #[.int .u8 k2, .string S2, .slice ql2 nl2 cl2, .slice qh2 nh2 ch2, .slice qz2 nz2 cz2] (0, 0) _ vr rfl HHe.out Tryd.underlying26 rfl HCs.out rfl) rfl (by
      obtain ⟨p, vr, h1, h2, h3, h4, h5, h6⟩ := HE.out
      exact ⟨A, p, vr, h1, h2, h3, fun j hj => (h4 j hj).resolve_left (fun h => h), h5, h6⟩)

/-- A value that was answered lies in a block of its own, and all else is as it was: of any value. -/
structure Gov (w w5 wx : World) (g : Nat) (p : PV) (vr : Value) (l : List UInt8) (base : Nat) : Prop where
  b : Below w.heap.size w wx
  v : VB wx g p
  k : ∀ g' p', VB w5 g' p' → (∀ j, p'.at_ j → j ≠ g) → g' ≠ g → VB wx g' p'
  a : Ans base wx vr l
theorem gov_five {w w5 : World} {g base : Nat} {p : PV} {vr : Value} {l : List UInt8} (hz : VZ w5 g) (hp : p.In w5) (hr : ∀ j, p.at_ j → j ≠ g) (hg : w.heap.size ≤ g) (hb : Below w.heap.size w w5) (hA : Ans base w5 vr l) (hbase : g < base) :
    Gov w w5 (five w5 g (.int .u8 p.k) (.string p.S) (.slice p.ql p.nl p.cl) (.slice p.qh p.nh p.ch) (.slice p.qz p.nz p.cz)) g p vr l base where
  b := five_below hb hg _ _ _ _ _
  v := ⟨val_five hz _ _ _ _ _, hp.same (by simp [five]) (fun k hk => five_other _ _ _ _ _ _ _ _ (hr k hk))⟩
  k := fun g' p' h hd' hne => ⟨(five_other _ _ _ _ _ _ _ _ hne).trans h.hp, h.pv.same (by simp [five]) (fun k hk => five_other _ _ _ _ _ _ _ _ (hd' k hk))⟩
  a := ans_high hA (by simp [five]) (fun j hj => five_other _ _ _ _ _ _ _ _ (by omega))
theorem gov_new {w w5 : World} {base : Nat} {p : PV} {vr : Value} {l : List UInt8} (hp : p.In w5) (hb : Below w.heap.size w w5) (hA : Ans base w5 vr l) :
    Gov w w5 (w5.alloc (.cells #[.int .u8 p.k, .string p.S, .slice p.ql p.nl p.cl, .slice p.qh p.nh p.ch, .slice p.qz p.nz p.cz] 26)) w5.heap.size p vr l base where
  b := hb.alloc hb.size _
  v := VB.new hp
  k := fun g' p' h _ _ => h.keep (Kit.below1 _ _)
  a := hA.keep (Kit.below1 _ _)
/-- A reply: it is something; an error changes nothing. -/
theorem reply_ok (i : Nat) (d : V) (A : List (List UInt8)) (hk : d.kind = 0 ∨ d.kind = 1) : ∃ (x : UInt8) (r : List UInt8), (doD i d A).2 = x :: r ∧ (x ≠ 45 ∨ x = 45 ∧ (doD i d A).1 = d) := by
  rw [doD_right hk]
  have hadd : ∀ y, ∃ (x : UInt8) (r : List UInt8), (addD d y).2 = x :: r ∧ (x ≠ 45 ∨ x = 45 ∧ (addD d y).1 = d) := fun y => by
    unfold addD sumD
    split
    · split
      · exact ⟨58, _, rfl, Or.inl (by decide)⟩
      · exact ⟨45, _, rfl, Or.inr ⟨rfl, rfl⟩⟩
    · exact ⟨45, _, rfl, Or.inr ⟨rfl, rfl⟩⟩
  have hget : ∃ (x : UInt8) (r : List UInt8), getR d = x :: r ∧ x ≠ 45 := by
    unfold getR
    split
    · exact ⟨36, _, rfl, by decide⟩
    · exact ⟨36, _, rfl, by decide⟩
  match i with
  | 0 => obtain ⟨x, r, h1, h2⟩ := hget; exact ⟨x, r, h1, Or.inl h2⟩
  | 1 => obtain ⟨x, r, h1, h2⟩ := hget; exact ⟨x, r, h1, Or.inl h2⟩
  | 2 => exact ⟨58, _, rfl, Or.inl (by decide)⟩
  | 3 => exact ⟨58, _, rfl, Or.inl (by decide)⟩
  | 4 =>
    show ∃ (x : UInt8) (r : List UInt8), (byD d (wd A 2)).2 = x :: r ∧ (x ≠ 45 ∨ x = 45 ∧ (byD d (wd A 2)).1 = d)
    unfold byD
    split
    · exact hadd _
    · exact ⟨45, _, rfl, Or.inr ⟨rfl, rfl⟩⟩
  | i + 5 => exact hadd 1
theorem eWrong_is : eWrong = 45 :: (mWrong ++ [13, 10]) := by decide +kernel

end Go.Proofs.YthiaflnlmabikaaDoor.TxtL
