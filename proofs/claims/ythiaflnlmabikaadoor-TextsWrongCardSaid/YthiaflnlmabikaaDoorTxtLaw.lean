/-
  What the laws of layer 11 show first, and share.
-/
import Derived.Test.YthiaflnlmabikaaDoorTxtCode
import Derived.Test.YthiaflnlmabikaaDoorSaid
import Derived.Test.YthiaflnlmabikaaDoorRefInt
import Derived.Test.YthiaflnlmabikaaDoorRefBulk
import Derived.Deep.QuietTactic
import Derived.Deep.DeepCutAuto
import Derived.BigQuiet
import Derived.StillTailTactics
namespace Go.Proofs.YthiaflnlmabikaaDoor.TxtL
open Go.RowKit Kit StrT RowG BOrd ValT StoT ReplyT ReplyMath ValM BytesIn DoT Low MapT LstT TxtT NumL NumW NumMath ReplyM TxtM SaidT RefR
set_option linter.unusedVariables false
set_option maxRecDepth 100000


theorem dow_to {f : FuncId} {ar : Array Value} {W0 W : World} {i : Nat} {d : V} {L : List (List UInt8)} {d' : V} {l' : List UInt8} (h : doD i d L = (d', l')) (c : Calls Tryd.prog f ar W0 (DoW (doD i d L).1 (doD i d L).2 W)) : Calls Tryd.prog f ar W0 (DoW d' l' W) := by
  rw [h] at c
  exact c
theorem doD_get {d : V} (L : List (List UInt8)) (h : d.kind = 0 ∨ d.kind = 1) : doD 0 d L = (d, getR d) := doD_right h
theorem doD_getdel {d : V} (L : List (List UInt8)) (h : d.kind = 0 ∨ d.kind = 1) : doD 1 d L = (v0, getR d) := doD_right h
theorem doD_app {d : V} (a b c x : List UInt8) (s : List UInt8) (h : d.kind = 0 ∨ d.kind = 1) (hs : d.s = s) : doD 2 d [a, b, x] = (textV (s ++ x), int ((s.length + x.length : Nat) : Int)) := by
  subst hs
  exact doD_right h
theorem doD_new (a b x : List UInt8) : doD 2 v0 [a, b, x] = (textV x, int (x.length : Int)) := by
  rw [doD_app a b x x [] (Or.inl rfl) rfl]
  simp
theorem doD_len {d : V} (L : List (List UInt8)) (h : d.kind = 0 ∨ d.kind = 1) : doD 3 d L = (d, int (d.s.length : Int)) := doD_right h
theorem pB_itoa {n : Int} (h0 : -9223372036854775808 ≤ n) (h1 : n ≤ 9223372036854775807) : pB (Lib.itoa n) = true ∧ pV (Lib.itoa n) = n := by
  unfold pB pV
  rw [parse_itoa n h0 h1]
  exact ⟨rfl, rfl⟩
/-- A number made more. -/
theorem doD_by {d : V} {a b x : List UInt8} {m n : Int} (h : d.kind = 0 ∨ d.kind = 1) (hd : numB d = true ∧ numV d = m) (hx : x = Lib.itoa n) (n0 : -9223372036854775808 ≤ n) (n1 : n ≤ 9223372036854775807) (h0 : -9223372036854775808 ≤ m + n) (h1 : m + n ≤ 9223372036854775807) : doD 4 d [a, b, x] = (textV (Lib.itoa (m + n)), int (m + n)) := by
  subst hx
  obtain ⟨e1, e2⟩ := pB_itoa n0 n1
  refine (doD_right h).trans ?_
  show byD d (Lib.itoa n) = _
  unfold byD addD sumD
  rw [if_pos e1, if_pos hd.1, e2, hd.2, (add_yes ⟨h0, h1⟩).2, (add_yes ⟨h0, h1⟩).1, if_pos rfl]
theorem doD_odd {d : V} {a b x : List UInt8} (h : d.kind = 0 ∨ d.kind = 1) (hx : pB x = false) : doD 4 d [a, b, x] = (d, eInt) := by
  refine (doD_right h).trans ?_
  show byD d x = _
  unfold byD
  rw [if_neg (by rw [hx]; simp)]
theorem doD_one {d : V} {L : List (List UInt8)} {m : Int} (h : d.kind = 0 ∨ d.kind = 1) (hd : numB d = true ∧ numV d = m) (h0 : -9223372036854775808 ≤ m + 1) (h1 : m + 1 ≤ 9223372036854775807) : doD 5 d L = (textV (Lib.itoa (m + 1)), int (m + 1)) := by
  refine (doD_right h).trans ?_
  show addD d 1 = _
  unfold addD sumD
  rw [if_pos hd.1, hd.2, (add_yes ⟨h0, h1⟩).2, (add_yes ⟨h0, h1⟩).1, if_pos rfl]
theorem doD_over {d : V} {L : List (List UInt8)} {m : Int} (h : d.kind = 0 ∨ d.kind = 1) (hd : numB d = true ∧ numV d = m) (h0 : 9223372036854775807 < m + 1) : doD 5 d L = (d, eOver) := by
  refine (doD_right h).trans ?_
  show addD d 1 = _
  unfold addD sumD
  rw [if_pos hd.1, hd.2, (add_no (by omega)).2, if_neg (by simp)]
theorem num_text {n : Int} (h0 : -9223372036854775808 ≤ n) (h1 : n ≤ 9223372036854775807) : numB (textV (Lib.itoa n)) = true ∧ numV (textV (Lib.itoa n)) = n := by
  obtain ⟨e1, e2⟩ := pB_itoa h0 h1
  exact ⟨e1, e2⟩
theorem kind_of {w : World} {p : PV} {d : V} (h : p.In w) (hd : p.d = d) : p.k = (d.kind : Int) := by
  rw [← hd]
  exact VIn.ek h
theorem text_eq {s : List UInt8} {S X : ByteArray} (h : S.data.toList = (textV s).s) (hX : X.data.toList = s) : S = X := same_bytes (h.trans hX.symm)
theorem itoa_size (n : Int) (h0 : -9223372036854775808 ≤ n) (h1 : n ≤ 9223372036854775807) : (⟨(Lib.itoa n).toArray⟩ : ByteArray).size ≤ 20 := text_len n h0 h1

set_option maxHeartbeats 4000000 in
theorem shown_any (w : World) (hg : Gd w) : Calls Tryd.prog 7 #[] w fun e w' => e = .returned (.bool true) ∧ Below w.heap.size w w' := by
  have HG := Lib.hid (fun W (h : Below w.heap.size w W) => hg.keep h)
  have e1 : doD 5 (textV [57]) [[105, 110, 99, 114], [107]] = (textV [49, 48], int 10) := by
    rw [show ([57] : List UInt8) = Lib.itoa 9 by decide +kernel, doD_one (Or.inr rfl) (num_text (by decide) (by decide)) (by decide) (by decide)]
    rw [show Lib.itoa (9 + 1) = [49, 48] by decide +kernel]
    rfl
  have e2 : doD 5 (textV [120]) [[105, 110, 99, 114], [107]] = (textV [120], eInt) := by
    refine (doD_right (Or.inr rfl)).trans ?_
    show addD (textV [120]) 1 = _
    unfold addD
    rw [if_neg (by rw [show numB (textV [120]) = false by decide +kernel]; simp)]
  have C1 := Lib.hid (fun (W : World) (g : Nat) (hgw : g = W.heap.size) (hW : Below w.heap.size w W) (hpv : PV.In W (pvT ⟨#[57]⟩)) => (show Calls Tryd.prog 12 #[.agg #[.int .u8 1, .string ⟨#[57]⟩, .slice none 0 0, .slice none 0 0, .slice none 0 0], .slice (some ⟨g, 0, none⟩) 2 2] (W.alloc (.cells #[.string ⟨#[105, 110, 99, 114]⟩, .string ⟨#[107]⟩] 9)) (DoW (textV [49, 48]) (int 10) W) from by subst hgw; exact dow_to (e1) (call2 5 ⟨#[105, 110, 99, 114]⟩ ⟨#[107]⟩ (by decide) (by decide) (by decide) ⟨by decide, by decide⟩ (pvT ⟨#[57]⟩) W hpv (by decide) (HG.out W hW))))
  have C2 := Lib.hid (fun (W : World) (g : Nat) (hgw : g = W.heap.size) (hW : Below w.heap.size w W) (hpv : PV.In W (pvT ⟨#[120]⟩)) => (show Calls Tryd.prog 12 #[.agg #[.int .u8 1, .string ⟨#[120]⟩, .slice none 0 0, .slice none 0 0, .slice none 0 0], .slice (some ⟨g, 0, none⟩) 2 2] (W.alloc (.cells #[.string ⟨#[105, 110, 99, 114]⟩, .string ⟨#[107]⟩] 9)) (DoW (textV [120]) (eInt) W) from by subst hgw; exact dow_to (e2) (call2 5 ⟨#[105, 110, 99, 114]⟩ ⟨#[107]⟩ (by decide) (by decide) (by decide) ⟨by decide, by decide⟩ (pvT ⟨#[120]⟩) W hpv (by decide) (HG.out W hW))))
  clear hg e1 e2
  go_enter Tryd.func7, Tryd.ntmps7
  go_wp2_with fail
  with_reducible refine (C1.out w _ rfl (Below.refl _ _) (pvT_in _ _)).mono ?_
  rintro e w1 ⟨p1, vr1, rfl, hI, hd, hs, hA, hb⟩
  obtain ⟨k1, S1, ql1, nl1, cl1, qh1, nh1, ch1, qz1, nz1, cz1, d1⟩ := p1
  dsimp only [PV.agg]
  obtain ⟨q1, c1, rfl, hv1⟩ := ans_text hA 5 (by decide +kernel) ⟨#[58, 49, 48, 13, 10]⟩ (by decide +kernel)
  obtain rfl : S1 = ⟨#[49, 48]⟩ := text_eq hs rfl
  have HV1 := Lib.hid hv1
  have HB1 := Lib.hid hb
  have HP1 := Lib.hid (VB.new hI)
  dsimp only at HP1
  have HB2 := Lib.hid (hb.alloc hb.size (.cells #[.int .u8 k1, .string ⟨#[49, 48]⟩, .slice ql1 nl1 cl1, .slice qh1 nh1 ch1, .slice qz1 nz1 cz1] 26))
  clear hI hd hs hA hb hv1 C1
  go_wp2_with fail
  have HSz2 := Lib.hid (show w1.heap.size + 1 = (w1.alloc (.cells #[.int .u8 k1, .string ⟨#[49, 48]⟩, .slice ql1 nl1 cl1, .slice qh1 nh1 ch1, .slice qz1 nz1 cz1] 26)).heap.size by simp)
  have HW2 := Lib.hid (Kit.below1 w1 (.cells #[.int .u8 k1, .string ⟨#[49, 48]⟩, .slice ql1 nl1 cl1, .slice qh1 nh1 ch1, .slice qz1 nz1 cz1] 26))
  generalize w1.alloc (.cells #[.int .u8 k1, .string ⟨#[49, 48]⟩, .slice ql1 nl1 cl1, .slice qh1 nh1 ch1, .slice qz1 nz1 cz1] 26) = w2 at HP1 HB2 HW2 HSz2 ⊢
  with_reducible refine (C2.out w2 _ HSz2.out HB2.out (pvT_in _ _)).mono ?_
  rintro e w3 ⟨p2, vr2, rfl, hI, hd, hs, hA, hb⟩
  obtain ⟨k2, S2, ql2, nl2, cl2, qh2, nh2, ch2, qz2, nz2, cz2, d2⟩ := p2
  dsimp only [PV.agg]
  obtain ⟨q2, c2, rfl, hv2⟩ := ans_text hA 46 (by decide +kernel) ⟨#[45, 69, 82, 82, 32, 118, 97, 108, 117, 101, 32, 105, 115, 32, 110, 111, 116, 32, 97, 110, 32, 105, 110, 116, 101, 103, 101, 114, 32, 111, 114, 32, 111, 117, 116, 32, 111, 102, 32, 114, 97, 110, 103, 101, 13, 10]⟩ (by decide +kernel)
  obtain rfl : S2 = ⟨#[120]⟩ := text_eq hs rfl
  have HP3 := Lib.hid (HP1.out.keep hb)
  have HN := Lib.hid (VB.new hI)
  dsimp only at HN
  have HB3 := Lib.hid (HB2.out.trans (hb.mono HB2.out.size))
  have hb4 := Kit.below1 w3 (.cells #[.int .u8 k2, .string ⟨#[120]⟩, .slice ql2 nl2 cl2, .slice qh2 nh2 ch2, .slice qz2 nz2 cz2] 26)
  have HB4 := Lib.hid (HB3.out.trans (hb4.mono HB3.out.size))
  have HP4 := Lib.hid (HP3.out.keep hb4)
  have hv1 := HV1.out _ (HW2.out.trans ((hb.trans (hb4.mono hb.size)).mono HW2.out.size))
  have hv2 := hv2 _ hb4
  obtain ⟨-, -, a0, a1, a2, a3, a4⟩ := HP4.out.room
  obtain ⟨-, -, b0, b1, b2, b3, b4⟩ := HN.out.room
  dsimp only at a0 a1 a2 a3 a4 b0 b1 b2 b3 b4
  clear hI hd hs hA hb hb4 C2 HP1 HP3 HB2 HW2 HB3 HV1
  go_wp2_with fail
  generalize w3.alloc _ = w4 at *
  go_ret
  exact ⟨rfl, HB4.out⟩

theorem sum3_in {x y z : Int} (h : (-1152921504606846976 < x ∧ x < 1152921504606846976) ∧ (-1152921504606846976 < y ∧ y < 1152921504606846976) ∧ (-1152921504606846976 < z ∧ z < 1152921504606846976)) :
    IntKind.i64.wrap (x + y) = x + y ∧ wrap64 (x + y) = x + y ∧ IntKind.i64.wrap (x + y + z) = x + y + z ∧ wrap64 (x + y + z) = x + y + z := by
  refine ⟨IntWalk.i64_in _ (by omega), ?_, IntWalk.i64_in _ (by omega), ?_⟩
  · unfold wrap64; omega
  · unfold wrap64; omega
theorem ans_at {base : Nat} {w : World} {q : Option Addr} {n c : Nat} {l : List UInt8} (h : Ans base w (.slice q n c) l) (X : ByteArray) (hX : X.data.toList = l) (W : World) (hW : Below w.heap.size w W) : (convert 29 9 (.slice q n c)).run Tryd.prog W = .ok (.string X) W := by
  obtain ⟨p, c', e, hB, -⟩ := h
  injection e with e1 e2 e3
  subst e1 e3
  obtain rfl : X = ⟨l.toArray⟩ := same_bytes hX
  exact bs_string (hB.keep hW) _ _ e2
theorem text_rows {p : PV} {s : List UInt8} (hd : p.d = textV s) : ∀ k, ¬ p.at_ k := by
  intro k hk
  rcases hk with ⟨h0, -⟩ | ⟨h0, -⟩ | ⟨h0, -⟩ <;> (rw [hd] at h0; exact absurd h0 (by simp [textV]))
/-- A value's block, before it is filled. -/
def VZ (w : World) (g : Nat) : Prop := w.heap[g]? = some (.cells #[.int .u8 0, .string ⟨#[]⟩, .slice none 0 0, .slice none 0 0, .slice none 0 0] 26 (0, 0))
theorem VZ.keep {w w' : World} {g : Nat} (h : VZ w g) (hb : Below w.heap.size w w') : VZ w' g := (hb.block g (Array.getElem?_eq_some_iff.1 h).1).trans h
theorem vz_al {w w' : World} (hb : Below (w.alloc (.cells #[.int .u8 0, .string ⟨#[]⟩, .slice none 0 0, .slice none 0 0, .slice none 0 0] 26)).heap.size (w.alloc (.cells #[.int .u8 0, .string ⟨#[]⟩, .slice none 0 0, .slice none 0 0, .slice none 0 0] 26)) w') : VZ w' w.heap.size := VZ.keep (heap_alloc_last w _) hb
theorem vz_da {w w' : World} (hb : Below (w.drew.alloc (.cells #[.int .u8 0, .string ⟨#[]⟩, .slice none 0 0, .slice none 0 0, .slice none 0 0] 26)).heap.size (w.drew.alloc (.cells #[.int .u8 0, .string ⟨#[]⟩, .slice none 0 0, .slice none 0 0, .slice none 0 0] 26)) w') : VZ w' w.heap.size := VZ.keep (heap_alloc_last w.drew _) hb
theorem vz_facts {w : World} {g : Nat} (h : VZ w g) : (w.cell? ⟨g, 0, none⟩ = some (.int .u8 0) ∧ w.cell? ⟨g, 1, none⟩ = some (.string ⟨#[]⟩) ∧ w.cell? ⟨g, 2, none⟩ = some (.slice none 0 0) ∧ w.cell? ⟨g, 3, none⟩ = some (.slice none 0 0) ∧ w.cell? ⟨g, 4, none⟩ = some (.slice none 0 0)) ∧
    w.frozen? ⟨g, 0, none⟩ = false ∧ w.frozen? ⟨g, 1, none⟩ = false ∧ w.frozen? ⟨g, 2, none⟩ = false ∧ w.frozen? ⟨g, 3, none⟩ = false ∧ w.frozen? ⟨g, 4, none⟩ = false := by
  have hv : VCells w g _ _ _ _ _ := VCells.of h
  exact ⟨⟨hv.c0, hv.c1, hv.c2, hv.c3, hv.c4⟩, hv.frz 0, hv.frz 1, hv.frz 2, hv.frz 3, hv.frz 4⟩
/-- A value that was answered lies in a block of its own, and all else is as it was. -/
structure Got (w w5 wx : World) (g : Nat) (p : PV) (vr : Value) (l : List UInt8) (base : Nat) : Prop where
  b : Below w.heap.size w wx
  v : VB wx g p
  k : ∀ g' p' s', VB w5 g' p' → p'.d = textV s' → g' ≠ g → VB wx g' p'
  a : Ans base wx vr l
theorem got_five {w w5 : World} {g base : Nat} {p : PV} {vr : Value} {l s : List UInt8} (hz : VZ w5 g) (hp : p.In w5) (hd : p.d = textV s) (hg : w.heap.size ≤ g) (hb : Below w.heap.size w w5) (hA : Ans base w5 vr l) (hbase : g < base) :
    Got w w5 (five w5 g (.int .u8 p.k) (.string p.S) (.slice p.ql p.nl p.cl) (.slice p.qh p.nh p.ch) (.slice p.qz p.nz p.cz)) g p vr l base where
  b := five_below hb hg _ _ _ _ _
  v := ⟨val_five hz _ _ _ _ _, hp.same (by simp [five]) (fun k hk => absurd hk (text_rows hd k))⟩
  k := fun g' p' s' h hd' hne => ⟨(five_other _ _ _ _ _ _ _ _ hne).trans h.hp, h.pv.same (by simp [five]) (fun k hk => absurd hk (text_rows hd' k))⟩
  a := ans_high hA (by simp [five]) (fun j hj => five_other _ _ _ _ _ _ _ _ (by omega))
theorem got_new {w w5 : World} {base : Nat} {p : PV} {vr : Value} {l : List UInt8} (hp : p.In w5) (hb : Below w.heap.size w w5) (hA : Ans base w5 vr l) :
    Got w w5 (w5.alloc (.cells #[.int .u8 p.k, .string p.S, .slice p.ql p.nl p.cl, .slice p.qh p.nh p.ch, .slice p.qz p.nz p.cz] 26)) w5.heap.size p vr l base where
  b := hb.alloc hb.size _
  v := VB.new hp
  k := fun g' p' s' h _ _ => h.keep (Kit.below1 _ _)
  a := hA.keep (Kit.below1 _ _)
theorem ss3_at (w : World) (g : Nat) (hg : g = w.heap.size) (a b c : ByteArray) : StrT.Ss (w.alloc (.cells #[.string a, .string b, .string c] 9)) (some ⟨g, 0, none⟩) [a.data.toList, b.data.toList, c.data.toList] := by
  subst hg
  exact ss3_new w a b c
/-- Do of three words that lie wherever. -/
theorem call3y (i : Nat) (nm kk x : ByteArray) (hi : i < 6) (hnm : lowL nm.data.toList = nameD i) (hz : nm.size ≤ 140737488351232 ∧ kk.size ≤ 140737488351232) (hx : x.size ≤ 140737488351232) (p : PV) (w : World) (g : Nat) (hp : p.In w) (hS : p.S.size ≤ 1048576) (hg : Gd w) (hs : StrT.Ss w (some ⟨g, 0, none⟩) [nm.data.toList, kk.data.toList, x.data.toList]) :
    Calls Tryd.prog 12 #[p.agg, .slice (some ⟨g, 0, none⟩) 3 3] w (DoW (doD i p.d [nm.data.toList, kk.data.toList, x.data.toList]).1 (doD i p.d [nm.data.toList, kk.data.toList, x.data.toList]).2 w) := by
  refine (do_any i hi p _ [nm.data.toList, kk.data.toList, x.data.toList] 3 3 _ hp hS hg rfl (by unfold needD; split <;> omega) hs (wd_le (fun s hs => ?_)) hnm).mono (fun e w' h => ?_)
  · simp only [List.mem_cons, List.not_mem_nil, or_false] at hs
    rcases hs with rfl | rfl | rfl <;> rw [str_len] <;> omega
  · obtain ⟨p, vr, he, hI, hd, -, hA, hb⟩ := h
    exact ⟨p, vr, he, hI, hd, by rw [← hd]; exact VIn.es hI, hA, hb⟩
theorem c_al {w w' : World} {o : Obj} (hb : Below (w.alloc o).heap.size (w.alloc o) w') : Below w.heap.size w w' := ((Below.refl _ _).alloc (Nat.le_refl _) _).trans (hb.mono (by simp))
theorem c_da {w w' : World} {o : Obj} (hb : Below (w.drew.alloc o).heap.size (w.drew.alloc o) w') : Below w.heap.size w w' := ((Below.refl _ w).drew.alloc (Nat.le_refl _) _).trans (hb.mono (show w.heap.size ≤ (w.drew.alloc o).heap.size by have : w.drew.heap.size = w.heap.size := rfl; simp [this]))
theorem c_dr {w w' : World} (hb : Below w.drew.heap.size w.drew w') : Below w.heap.size w w' := (Below.refl w.heap.size w).drew.trans hb
theorem sum_in {a b c : Nat} (h : c = a + b) (hc : c ≤ 80) : IntKind.i64.wrap ((a : Int) + (b : Int)) = (c : Int) ∧ wrap64 ((a : Int) + (b : Int)) = (c : Int) := by
  subst h
  refine ⟨?_, ?_⟩
  · rw [IntWalk.i64_in _ (by omega)]; omega
  · unfold wrap64; omega
theorem one_in {k : Int} (h : -9223372036854775808 ≤ k + 1 ∧ k + 1 ≤ 9223372036854775807) : IntKind.i64.wrap (k + 1) = k + 1 ∧ wrap64 (k + 1) = k + 1 := by
  refine ⟨IntWalk.i64_in _ h, ?_⟩
  unfold wrap64
  omega
theorem cutN {T V : ByteArray} {n : Nat} (h : V = if T.size ≤ n then T else T.extract 0 n) : V.size ≤ n := by
  subst h
  split
  · assumption
  · rw [ByteArray.size_extract]; omega
theorem VB.text {w : World} {g : Nat} {p q : PV} {s : List UInt8} (h : VB w g p) (hq : q.In w) (hd : q.d = textV s) : VB (w.setRow g #[.int .u8 q.k, .string q.S, .slice q.ql q.nl q.cl, .slice q.qh q.nh q.ch, .slice q.qz q.nz q.cz]) g q :=
  ⟨setRow_heap w g _ _ _ _ h.hp, hq.same (by simp) (fun k hk => absurd hk (text_rows hd k))⟩

end Go.Proofs.YthiaflnlmabikaaDoor.TxtL
