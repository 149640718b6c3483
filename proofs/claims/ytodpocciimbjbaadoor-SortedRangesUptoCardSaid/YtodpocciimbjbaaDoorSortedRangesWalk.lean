/-
  SortedRanges: a sorted set is told whole, in order of its numbers; one whose number is made more is told where it belongs; what is told stays.
-/
import Derived.Test.YtodpocciimbjbaaDoorSrtLaws
import Derived.Test.YtodpocciimbjbaaDoorRefVals
import Derived.Test.YtodpocciimbjbaaDoorRefVal2
import Derived.Test.YtodpocciimbjbaaDoorRefVal3
import Derived.Test.YtodpocciimbjbaaDoorRefTexts
import Derived.Test.YtodpocciimbjbaaDoorRefBulk
import Derived.Test.YtodpocciimbjbaaDoorRefAdd
import Derived.Deep.QuietTactic
import Derived.Deep.DeepCutAuto
import Derived.BigQuiet
import Derived.StillTailTactics
import Derived.Deep.RegionLaw
namespace Go.Proofs.YtodpocciimbjbaaDoor.sortedRanges
open Go.RowKit Kit StrT RowG BOrd ValT StoT ReplyT ReplyMath ValM BytesIn DoT Low SrtT NumL NumW NumMath ReplyM SrtM SaidT RefR DoV LawK SrtL RefV
set_option linter.unusedVariables false
set_option maxRecDepth 100000
-- ASKS: NumL.Gd
-- UPTO


theorem fit_kind (d : V) : (fitV d).kind ≤ 255 := by
  unfold fitV v0
  repeat' split
  all_goals simp
theorem same_self (d : V) : sameB d d = true := decide_eq_true rfl
theorem right_of {M : List Mk} (h : marks M) : rightB (zV M) = true := decide_eq_true (zV_right h)
theorem tmod_in (n : Int) : -2305843009213693952 < n.tmod 2305843009213693952 ∧ n.tmod 2305843009213693952 < 2305843009213693952 := ⟨Int.lt_tmod_of_pos n (by decide), Int.tmod_lt_of_pos n (by decide)⟩
/-- A mark in a block of its own. -/
structure MC (W : World) (g : Nat) (T : ByteArray) (N : Int) : Prop where
  c0 : W.cell? ⟨g, 0, none⟩ = some (.string T)
  c1 : W.cell? ⟨g, 1, none⟩ = some (.int .i64 N)
  lt : g < W.heap.size
theorem MC.keep {W W' : World} {g : Nat} {T : ByteArray} {N : Int} (h : MC W g T N) (hb : Below W.heap.size W W') : MC W' g T N :=
  ⟨(hb.cell (p := ⟨g, 0, none⟩) h.lt).trans h.c0, (hb.cell (p := ⟨g, 1, none⟩) h.lt).trans h.c1, Nat.lt_of_lt_of_le h.lt hb.size⟩
theorem mc_new (W : World) (T : ByteArray) (N : Int) : MC (W.alloc (.cells #[.string T, .int .i64 N] 39)) W.heap.size T N :=
  ⟨by rw [cell_of_row _ _ _ _ 39 _ (heap_alloc_last W _)]; rfl, by rw [cell_of_row _ _ _ _ 39 _ (heap_alloc_last W _)]; rfl, by simp⟩
theorem mz_facts (W : World) : (W.alloc (.cells #[.string ⟨#[]⟩, .int .i64 0] 39)).cell? ⟨W.heap.size, 0, none⟩ = some (.string ⟨#[]⟩) ∧ (W.alloc (.cells #[.string ⟨#[]⟩, .int .i64 0] 39)).cell? ⟨W.heap.size, 1, none⟩ = some (.int .i64 0) ∧ (W.alloc (.cells #[.string ⟨#[]⟩, .int .i64 0] 39)).frozen? ⟨W.heap.size, 0, none⟩ = false ∧ (W.alloc (.cells #[.string ⟨#[]⟩, .int .i64 0] 39)).frozen? ⟨W.heap.size, 1, none⟩ = false :=
  ⟨by rw [cell_of_row _ _ _ _ 39 _ (heap_alloc_last W _)]; rfl, by rw [cell_of_row _ _ _ _ 39 _ (heap_alloc_last W _)]; rfl, frozen_of_row _ _ _ _ 39 (heap_alloc_last W _), frozen_of_row _ _ _ _ 39 (heap_alloc_last W _)⟩
theorem mz_set (W : World) (T : ByteArray) (N : Int) : MC (((W.alloc (.cells #[.string ⟨#[]⟩, .int .i64 0] 39)).setCell ⟨W.heap.size, 0, none⟩ (.string T)).setCell ⟨W.heap.size, 1, none⟩ (.int .i64 N)) W.heap.size T N ∧ Below W.heap.size W (((W.alloc (.cells #[.string ⟨#[]⟩, .int .i64 0] 39)).setCell ⟨W.heap.size, 0, none⟩ (.string T)).setCell ⟨W.heap.size, 1, none⟩ (.int .i64 N)) := by
  have h0 := heap_alloc_last W (.cells #[.string ⟨#[]⟩, .int .i64 0] 39)
  have h1 := heap_setCell_same _ _ 0 _ _ (.string T) h0
  have h2 := heap_setCell_same _ _ 1 _ _ (.int .i64 N) h1
  refine ⟨⟨(cell_of_row _ _ _ _ 39 _ h2).trans rfl, (cell_of_row _ _ _ _ 39 _ h2).trans rfl, by simp⟩, ?_⟩
  exact ((Kit.below1 W _).setCell (p := ⟨W.heap.size, 0, none⟩) (Nat.le_refl _) _).setCell (p := ⟨W.heap.size, 1, none⟩) (Nat.le_refl _) _
theorem cell_al {W : World} {a : Addr} {u : Value} {o : Obj} (h : W.cell? a = some u) : (W.alloc o).cell? a = some u := (World.cell?_alloc_some W a o (by rw [h]; rfl)).trans h
theorem names_take {P : List Mk} {k : Nat} (h : k < P.length) : mnames (P.take (k + 1)) = mnames (P.take k) ++ [P[k].name] := by
  unfold mnames
  rw [List.take_add_one, List.map_append, List.getElem?_eq_getElem h]
  rfl

set_option maxHeartbeats 16000000 in
theorem walk (q : Option Addr) (L : List Mk) (n c : Nat) (n0 a : Int) (w : World) (hL : L.length = n) (h : Rs mkE w q L) (hz : ∀ x ∈ L, x.name.length ≤ 140737488351232) (hcap : n ≤ c) (hcm : c ≤ 9223372036854775807) (hnil : q = none → c = 0) (hnn : ∀ x ∈ L, -9223372036854775808 ≤ x.n ∧ x.n ≤ 9223372036854775807) (hup : (L.map (·.name)).flatten.length ≤ 1048576) (a0 : -9223372036854775808 ≤ n0) (a1 : n0 ≤ 9223372036854775807) (b0 : 0 ≤ a) (b1 : a ≤ 255) (hg : Gd w) :
    Calls Tryd.prog 5 #[.slice q n c, .int .i64 n0, .int .u8 a] w fun e w' => e = .returned (.bool true) ∧ Below w.heap.size w w' := by
  obtain ⟨A, rfl⟩ := Int.eq_ofNat_of_zero_le b0
  have HG := Lib.hid (fun W (h : Below w.heap.size w W) => hg.keep h)
  have C0 := Lib.hid (fun W (h : Below w.heap.size w W) => shown_any W (hg.keep h))
  have CFi := Lib.hid (fun W (hW : Below w.heap.size w W) => rfit 5 ⟨#[]⟩ none 0 0 none 0 0 q n c ⟨5, [], [], [], L⟩ W ⟨rfl, by simp, rfl, Rs.nil _ _ _, Rs.nil _ _ _, h.keep hW, rfl, rfl, hL, by simp, by simp, hcap, by simp, by simp, hcm, fun _ => rfl, fun _ => rfl, hnil⟩ (by decide))
  obtain ⟨M, hM, hMu, hM8, hMl, hMn⟩ := fit_marks L hup hnn
  have HH := Lib.hid hM
  have HU := Lib.hid hMu
  have H8 := Lib.hid hM8
  have HFl := Lib.hid hMl
  have HIn := Lib.hid hMn
  obtain ⟨x, hx⟩ : ∃ x, x = n0.tmod 2305843009213693952 := ⟨_, rfl⟩
  have hxb : -2305843009213693952 < x ∧ x < 2305843009213693952 := by rw [hx]; exact tmod_in n0
  obtain ⟨F1, hF1⟩ : ∃ F : ByteArray, F = ⟨(Lib.itoa x).toArray⟩ := ⟨_, rfl⟩
  have hF1z : F1.size ≤ 20 := by rw [hF1]; exact text_len _ (by omega) (by omega)
  have HF1 := Lib.hid (show F1.data.toList = Lib.itoa x by rw [hF1])
  have CT1 := Lib.hid (fun W => (show Calls Tryd.prog 12 #[.int .i64 x] W (fun e w' => e = .returned (.string F1) ∧ Below W.heap.size W w') by rw [hF1]; exact Ref01.text_any x.natAbs x W (Nat.le_refl _) (by omega) (by omega)))
  clear hF1
  have HX := Lib.hid hxb
  obtain ⟨NA, HNA⟩ : ∃ NR, Hid ((texts (mnames M)).length = NR) := ⟨_, Lib.hid rfl⟩
  obtain ⟨XA, HXA⟩ : ∃ XR : ByteArray, Hid (XR.data.toList = texts (mnames M)) := ⟨⟨(texts (mnames M)).toArray⟩, Lib.hid rfl⟩
  have HBx := Lib.hid (Below.refl w.heap.size w)
  clear h hz hcm hnil hup hnn hg hL hM hMu hMl hM8 hMn hxb hcap
  go_enter Tryd.func5, Tryd.ntmps5
  go_wp2_with fail
  with_reducible refine (C0.out w HBx.out).mono ?_
  rintro e w1 ⟨rfl, hb1⟩
  have HB := Lib.hid hb1
  clear hb1 HBx C0
  go_wp2_with fail
  with_reducible refine (CFi.out w1 HB.out).mono ?_
  rintro e w2 ⟨v, rfl, hA, hb⟩
  obtain ⟨p8, rfl, hI, hd, -, -⟩ := pv_of hA (fit_kind _) (fit_len _).1 (fit_len _).2.1 (fit_len _).2.2
  obtain ⟨k8, S8, ql8, nl8, cl8, qh8, nh8, ch8, qz8, nz8, cz8, d8⟩ := p8
  dsimp only [PV.agg]
  have hd : d8 = zV M := Eq.trans hd HH.out
  have hn : True := trivial
  have hbn := hb.trans ((Kit.below1 w2 (.cells #[.int .u8 k8, .string S8, .slice ql8 nl8 cl8, .slice qh8 nh8 ch8, .slice qz8 nz8 cz8] 26)).mono hb.size)
  have HB := Lib.hid (HB.out.trans (hbn.mono HB.out.size))
  have HV8 := Lib.hid (show VB _ w2.heap.size ⟨k8, S8, ql8, nl8, cl8, qh8, nh8, ch8, qz8, nz8, cz8, d8⟩ from VB.new hI)
  have HD8 := Lib.hid (show PV.d ⟨k8, S8, ql8, nl8, cl8, qh8, nh8, ch8, qz8, nz8, cz8, d8⟩ = _ from hd)
  have HL8 := Lib.hid (show w1.heap.size ≤ w2.heap.size from Below.size hb)
  clear hI hd hn hA hb hbn
  go_upto_region 3 with fail
  generalize hgg : w2.heap.size = g8 at HV8 HL8 ⊢
  clear hgg
  generalize w2.alloc (.cells #[.int .u8 k8, .string S8, .slice ql8 nl8 cl8, .slice qh8 nh8 ch8, .slice qz8 nz8 cz8] 26) = w3 at HV8 HB ⊢
  clear CFi HL8 HH
  have HA0 := Lib.hid (ownR_new strE w3.heap.size w3 w3.heap.size rfl (Nat.le_refl _))
  have HBz := Lib.hid (Kit.below1 w3 (.cells #[] 9))
  obtain ⟨e8, -, HP8⟩ := pv_marks HV8.out.pv HD8.out
  dsimp only at e8 HP8
  have HPs := Lib.hid HP8
  have HE8 := Lib.hid e8
  have hn8 : nz8 ≤ 8 := by rw [e8]; exact H8.out
  have hn8i : (nz8 : Int) ≤ 8 := by omega
  clear e8 HP8
  go_wp2_with fail
  go_loopw [9, 10] (fun v i wr => ∃ j : Nat, j ≤ nz8 ∧ i = .int .i64 (j : Int) ∧ Hid (OwnR strE w3.heap.size wr v (mnames (M.take j))) ∧ Hid (Below w3.heap.size w3 wr)) (fun _ i _ => nz8 - (intOf i).toNat)
  case atStart => exact ⟨0, Nat.zero_le _, rfl, HA0, HBz⟩
  case round =>
    clear HBz HA0
    obtain ⟨j, hj, rfl, HO, HBz⟩ := hrel
    rename World => wr
    have HB0 := HB
    have HV80 := HV8
    have HV8 := Lib.hid (HV8.out.keep HBz.out)
    obtain ⟨-, -, ra0, ra1, ra2, ra3, ra4⟩ := HV8.out.room
    dsimp only at ra0 ra1 ra2 ra3 ra4
    by_cases hlt : j < nz8
    · have t1 : decide ((j : Int) < (nz8 : Int)) = true := decide_eq_true (by omega)
      have hx0 : (0 : Int) ≤ (j : Int) := by omega
      have hxn : (j : Int) < (nz8 : Int) := by omega
      have hxH : j < M.length := by rw [← HE8.out]; exact hlt
      obtain ⟨b, off, rfl, hbl, hc0, -⟩ := mark_cells (HPs.out.keep HBz.out) j hxH
      obtain ⟨T, hT, hT2⟩ := str_of (M[j]'hxH).name
      rw [hT2] at hc0
      have HTk := Lib.hid (show mnames (M.take (j + 1)) = mnames (M.take j) ++ [T.data.toList] by rw [names_take hxH, hT])
      have HLk := Lib.hid (show (mnames (M.take j)).length ≤ 4096 by unfold mnames; rw [List.length_map, List.length_take]; have := H8.out; omega)
      have HB2 := Lib.hid (show Below w3.heap.size w3 (wr.alloc (.cells #[.string T] 9)) from HBz.out.alloc HBz.out.size _)
      have HO2 := Lib.hid (show OwnR strE w3.heap.size (wr.alloc (.cells #[.string T] 9)) u9 (mnames (M.take j)) from HO.out.keep (Kit.below1 wr _))
      have HR2 := Lib.hid (show Rs strE (wr.alloc (.cells #[.string T] 9)) (some ⟨wr.heap.size, 0, none⟩) [T.data.toList] from rs_ss.2 (LawK.ss1_new wr T))
      clear hT hT2 hbl hxH
      go_wp2_with (at_builtin; refine wpList_append_rs strE (w0 := w3) rfl (.tmp 35) (.tmp 42) rfl u9 (mnames (M.take j)) rfl HO2.out HB2.out (some ⟨wr.heap.size, 0, none⟩) [T.data.toList] 1 1 rfl rfl HR2.out (fun h => by cases h) (by have := HLk.out; omega) _ HTk.out ?_; intro v1 wy ho1 hb1)
      have HO1 := Lib.hid ho1
      have HB1 := Lib.hid hb1
      clear ho1 hb1
      go_roundw
      case rel => exact ⟨j + 1, by omega, by go_num, HO1, HB1⟩
      case measure => simp [intOf]; omega
    · obtain rfl : nz8 = j := by omega
      have t1 : decide ((nz8 : Int) < (nz8 : Int)) = false := decide_eq_false (by omega)
      have hAk : M.take nz8 = M := List.take_of_length_le (by rw [← HE8.out]; exact Nat.le_refl _)
      rw [hAk] at HO
      have hml : (mnames M).length = nz8 := by unfold mnames; rw [List.length_map]; exact HE8.out.symm
      obtain ⟨q7, c7, rfl, hS, -, h5, h6, h7⟩ := OwnR.ans HO.out
      rw [hml] at h5 ⊢
      have HRt := Lib.hid (show SR wr q7 nz8 c7 (mnames M) from ⟨hml, h5, h6, h7, rs_ss.1 hS⟩)
      have HB := Lib.hid (HB0.out.trans (HBz.out.mono HB0.out.size))
      have HPs := Lib.hid (HPs.out.keep HBz.out)
      clear hS h5 h6 h7 hAk hml HO HB0 HV80 HBz hlt t1 hj ra0 ra1 ra2 ra3 ra4
      have C1 := Lib.hid (fun (W Y : World) (g : Nat) (hY : Below (W.alloc (.cells #[.string ⟨#[122, 114, 97, 110, 103, 101]⟩, .string ⟨#[107]⟩, .string ⟨#[48]⟩, .string ⟨#[45, 49]⟩] 9)).heap.size (W.alloc (.cells #[.string ⟨#[122, 114, 97, 110, 103, 101]⟩, .string ⟨#[107]⟩, .string ⟨#[48]⟩, .string ⟨#[45, 49]⟩] 9)) Y) (hgw : g = W.heap.size) (hW : Below w.heap.size w W) (hpv : PV.In W ⟨k8, S8, ql8, nl8, cl8, qh8, nh8, ch8, qz8, nz8, cz8, d8⟩) (hdv : PV.d ⟨k8, S8, ql8, nl8, cl8, qh8, nh8, ch8, qz8, nz8, cz8, d8⟩ = zV (M)) => (show Calls Tryd.prog 11 #[.agg #[.int .u8 k8, .string S8, .slice ql8 nl8 cl8, .slice qh8 nh8 ch8, .slice qz8 nz8 cz8], .slice (some ⟨g, 0, none⟩) 4 4] Y (DoN (zV (M)) (texts (mnames M)) W) from by subst hgw; exact don_to (all_row M) (on4 3 (by decide) ⟨#[122, 114, 97, 110, 103, 101]⟩ ⟨#[107]⟩ ⟨#[48]⟩ ⟨#[45, 49]⟩ (by decide) (by decide) (by decide) ⟨k8, S8, ql8, nl8, cl8, qh8, nh8, ch8, qz8, nz8, cz8, d8⟩ (M) W Y hY hpv hdv (HG.out W hW) ⟨HU.out, HIn.out, by have := H8.out; omega, by decide, by have := H8.out; omega, HFl.out, by decide, by decide⟩)))
      obtain ⟨-, -, ra0, ra1, ra2, ra3, ra4⟩ := HV8.out.room
      dsimp only at ra0 ra1 ra2 ra3 ra4
      go_wp2_with fail
      clear ra0 ra1 ra2 ra3 ra4
      with_reducible refine (C1.out wr _ _ (Below.refl _ _) rfl HB.out HV8.out.pv HD8.out).mono ?_
      rintro e wa ⟨p9, vr9, rfl, hI, hd, hn, hA, hb⟩
      obtain ⟨k9, S9, ql9, nl9, cl9, qh9, nh9, ch9, qz9, nz9, cz9, d9⟩ := p9
      dsimp only [PV.agg]
      obtain ⟨qr9, cr9, rfl, hv9⟩ := ans_text hA NA HNA.out XA HXA.out
      have hbn := hb.trans ((Kit.below1 wa (.cells #[.int .u8 k9, .string S9, .slice ql9 nl9 cl9, .slice qh9 nh9 ch9, .slice qz9 nz9 cz9] 26)).mono hb.size)
      have HV8 := Lib.hid (HV8.out.keep hbn)
      have HRt := Lib.hid (HRt.out.keep hbn)
      have HPs := Lib.hid (HPs.out.keep hbn)
      have HB := Lib.hid (HB.out.trans (hbn.mono HB.out.size))
      have HV9 := Lib.hid (show VB _ wa.heap.size ⟨k9, S9, ql9, nl9, cl9, qh9, nh9, ch9, qz9, nz9, cz9, d9⟩ from VB.new hI)
      have HD9 := Lib.hid (show PV.d ⟨k9, S9, ql9, nl9, cl9, qh9, nh9, ch9, qz9, nz9, cz9, d9⟩ = _ from hd)
      have hbx := Kit.below1 wa (.cells #[.int .u8 k9, .string S9, .slice ql9 nl9 cl9, .slice qh9 nh9 ch9, .slice qz9 nz9 cz9] 26)
      have HC9 := Lib.hid (fun W hW => hv9 W (hbx.trans (Below.mono hW hbx.size)))
      clear hbx
      have HL9 := Lib.hid (show wr.heap.size ≤ wa.heap.size from Below.size hb)
      clear hI hd hn hA hb hbn hv9
      go_upto_region 9 with fail
      generalize hgg : wa.heap.size = g9 at HV9 HL9 ⊢
      clear hgg
      generalize wa.alloc (.cells #[.int .u8 k9, .string S9, .slice ql9 nl9 cl9, .slice qh9 nh9 ch9, .slice qz9 nz9 cz9] 26) = w4 at HV9 HV8 HRt HPs HB HC9 ⊢
      clear C1 HL9
      have CS := Lib.hid (rsame k8 S8 ql8 nl8 cl8 qh8 nh8 ch8 qz8 nz8 cz8 d8 k9 S9 ql9 nl9 cl9 qh9 nh9 ch9 qz9 nz9 cz9 d9 w4 HV8.out.pv HV9.out.pv)
      rw [show sameB d8 d9 = true by rw [show d8 = zV M from HD8.out, show d9 = zV M from HD9.out]; exact same_self _] at CS
      obtain ⟨-, -, ra0, ra1, ra2, ra3, ra4⟩ := HV8.out.room
      dsimp only at ra0 ra1 ra2 ra3 ra4
      obtain ⟨-, -, rb0, rb1, rb2, rb3, rb4⟩ := HV9.out.room
      dsimp only at rb0 rb1 rb2 rb3 rb4
      go_wp2_with fail
      clear ra0 ra1 ra2 ra3 ra4 rb0 rb1 rb2 rb3 rb4
      with_reducible refine CS.out.mono ?_
      rintro e w5 ⟨rfl, hb5⟩
      have hbn := Lib.hid hb5
      have HV8 := Lib.hid (HV8.out.keep hbn.out)
      have HRt := Lib.hid (HRt.out.keep hbn.out)
      have HPs := Lib.hid (HPs.out.keep hbn.out)
      have HC9 := Lib.hid (fun W hW => HC9.out W (hbn.out.trans (Below.mono hW hbn.out.size)))
      have HB := Lib.hid (HB.out.trans (hbn.out.mono HB.out.size))
      clear hb5 hbn CS HV9 HD9
      have hc9 := HC9.out
      have A1 := Lib.hid (fun W (h : Below w5.heap.size w5 W) => (show Calls Tryd.prog 15 #[.slice q7 nz8 c7] W (Said w5 W NA XA) from (rtexts_sum q7 (mnames M) nz8 c7 W HRt.out.ln (HRt.out.keep h).ss (by omega) HFl.out).mono (fun e w' hh => said_of hh h NA HNA.out XA HXA.out)))
      go_wp2_with fail
      refine wp_region_held_drew (S := fun W => Below w5.heap.size w5 W ∧ Below w5.heap.size w5 W) (by kernel_rfl) ?_ (fun hHeld => ?_)
      · exact ⟨(Below.refl _ _).drew, (Below.refl _ _).drew⟩
      refine wpAnyH_take (i := 0) (v := ?_) rfl (by kernel_rfl) (by kernel_rfl) (by kernel_rfl) (fun _ _ _ h => h) (Or.inl ⟨by rfl, ?_⟩) (by assumption) ?_
      rotate_left
      · intro W0 hSw; obtain ⟨hSa, hSb⟩ := hSw; go_simp; all_goals (with_reducible rfl)
      try simp only [Act.put, List.getElem_toArray, List.getElem_cons_zero, List.setIfInBounds_toArray, List.set_cons_zero, List.set_cons_succ]
      refine wpAnyH_take (i := 1) (v := ?_) rfl (by kernel_rfl) (by kernel_rfl) (by kernel_rfl) (fun _ _ _ h => h) (Or.inl ⟨by rfl, ?_⟩) (by assumption) ?_
      rotate_left
      · intro W0 hSw; obtain ⟨hSa, hSb⟩ := hSw; go_simp; all_goals (with_reducible rfl)
      try simp only [Act.put, List.getElem_toArray, List.getElem_cons_succ, List.getElem_cons_zero, List.setIfInBounds_toArray, List.set_cons_zero, List.set_cons_succ]
      refine wpAnyH_take (i := 2) (v := ?_) rfl (by kernel_rfl) (by kernel_rfl) (by kernel_rfl) (fun _ _ _ h => h) (Or.inl ⟨by rfl, ?_⟩) (by assumption) ?_
      rotate_left
      · intro W0 hSw; obtain ⟨hSa, hSb⟩ := hSw; go_simp; all_goals (with_reducible rfl)
      try simp only [Act.put, List.getElem_toArray, List.getElem_cons_succ, List.getElem_cons_zero, List.setIfInBounds_toArray, List.set_cons_zero, List.set_cons_succ]
      refine wpAnyH_ready (rs := [3]) (by kernel_rfl) (by simp) ?_
      refine AllReadyH.cons rfl (fun K hK => ?_) AllReadyH.nil
      go_simp
      go_wp2_with (go_at_call 15; (refine (A1.out _ hHeld.1).mono ?_); rintro e wA0 ⟨pwA0, cwA0, rfl, vwA0, bwA0, ywA0, zwA0⟩)
      have hC := hHeld.2.trans (ywA0.mono hHeld.2.size)
      refine hK.out _ _ ?_ (fun hHeld2 => ?_)
      · exact ⟨bwA0, hC⟩
      clear hK K hHeld hHeld2
      have hHeld : Below w5.heap.size w5 wA0 ∧ Below wA0.heap.size wA0 wA0 := ⟨bwA0, zwA0⟩
      refine held_mono (S' := fun W => Below w5.heap.size w5 W ∧ Below wA0.heap.size wA0 W) (fun W hW => ⟨hW.1, hC.trans (hW.2.mono hC.size)⟩) _ _ _ _ ?_
      clear hC
      refine wpAnyH_take (i := 4) (v := ?_) rfl (by kernel_rfl) (by kernel_rfl) (by kernel_rfl) (fun _ _ _ h => h) (Or.inl ⟨by rfl, ?_⟩) (by assumption) ?_
      rotate_left
      · intro W0 hSw; obtain ⟨hSa, hSb⟩ := hSw; go_simp; all_goals (with_reducible rfl)
      try simp only [Act.put, List.getElem_toArray, List.getElem_cons_succ, List.getElem_cons_zero, List.setIfInBounds_toArray, List.set_cons_zero, List.set_cons_succ]
      refine wpAnyH_take (i := 5) (v := ?_) rfl (by kernel_rfl) (by kernel_rfl) (by kernel_rfl) (fun _ _ _ h => h) (Or.inl ⟨by rfl, ?_⟩) (by assumption) ?_
      rotate_left
      · intro W0 hSw; obtain ⟨hSa, hSb⟩ := hSw; go_simp; all_goals (with_reducible rfl)
      try simp only [Act.put, List.getElem_toArray, List.getElem_cons_succ, List.getElem_cons_zero, List.setIfInBounds_toArray, List.set_cons_zero, List.set_cons_succ]
      refine wpAnyH_take (i := 6) (v := ?_) rfl (by kernel_rfl) (by kernel_rfl) (by kernel_rfl) (fun _ _ _ h => h) (Or.inl ⟨by rfl, ?_⟩) (by assumption) ?_
      rotate_left
      · intro W0 hSw; obtain ⟨hSa, hSb⟩ := hSw; go_simp; all_goals (with_reducible rfl)
      try simp only [Act.put, List.getElem_toArray, List.getElem_cons_succ, List.getElem_cons_zero, List.setIfInBounds_toArray, List.set_cons_zero, List.set_cons_succ]
      refine wpAnyH_take (i := 7) (v := ?_) rfl (by kernel_rfl) (by kernel_rfl) (by kernel_rfl) (fun _ _ _ h => h) (Or.inl ⟨by rfl, ?_⟩) (by assumption) ?_
      rotate_left
      · intro W0 hSw; obtain ⟨hSa, hSb⟩ := hSw; go_simp; all_goals (with_reducible rfl)
      try simp only [Act.put, List.getElem_toArray, List.getElem_cons_succ, List.getElem_cons_zero, List.setIfInBounds_toArray, List.set_cons_zero, List.set_cons_succ]
      refine wpAnyH_take (i := 8) (v := ?_) rfl (by kernel_rfl) (by kernel_rfl) (by kernel_rfl) (fun _ _ _ h => h) (Or.inl ⟨by rfl, ?_⟩) (by assumption) ?_
      rotate_left
      · intro W0 hSw; obtain ⟨hSa, hSb⟩ := hSw; go_simp; all_goals (with_reducible rfl)
      try simp only [Act.put, List.getElem_toArray, List.getElem_cons_succ, List.getElem_cons_zero, List.setIfInBounds_toArray, List.set_cons_zero, List.set_cons_succ]
      refine wpAnyH_take (i := 9) (v := ?_) rfl (by kernel_rfl) (by kernel_rfl) (by kernel_rfl) (fun _ _ _ h => h) (Or.inl ⟨by rfl, ?_⟩) (by assumption) ?_
      rotate_left
      · intro W0 hSw; obtain ⟨hSa, hSb⟩ := hSw; go_simp; all_goals (with_reducible rfl)
      try simp only [Act.put, List.getElem_toArray, List.getElem_cons_succ, List.getElem_cons_zero, List.setIfInBounds_toArray, List.set_cons_zero, List.set_cons_succ]
      refine wpAnyH_done (by kernel_rfl) ?_ _
      have hbn := Lib.hid hHeld.1
      have HV8 := Lib.hid (HV8.out.keep hbn.out)
      have HPs := Lib.hid (HPs.out.keep hbn.out)
      have HB := Lib.hid (HB.out.trans (hbn.out.mono HB.out.size))
      clear hHeld hbn A1 hc9 HC9 HRt HNA HXA
      rename World => w6
      rcases Nat.eq_zero_or_pos nz8 with h0 | h0
      · subst h0
        obtain ⟨-, -, ra0, ra1, ra2, ra3, ra4⟩ := HV8.out.room
        dsimp only at ra0 ra1 ra2 ra3 ra4
        go_wp2_with fail
        go_ret
        exact ⟨rfl, HB.out⟩
      · have t0 : ((nz8 : Int) == 0) = false := by rw [beq_eq_false_iff_ne]; omega
        have t01 : ¬ (nz8 : Int) = 0 := by omega
        obtain ⟨ix, hix⟩ : ∃ ix, ix = A % nz8 := ⟨_, rfl⟩
        have hixl : ix < nz8 := by rw [hix]; exact Nat.mod_lt _ h0
        have e1 : (A : Int) % (nz8 : Int) = (ix : Int) := by rw [hix]; rfl
        have e2 : (A : Int).tmod (nz8 : Int) = (ix : Int) := by rw [hix]; rfl
        have ix0 : (0 : Int) ≤ (ix : Int) := by omega
        have ixn : (ix : Int) < (nz8 : Int) := by omega
        have hixM : ix < M.length := by rw [← HE8.out]; exact hixl
        obtain ⟨bm, offm, eqz, hbm, u0, u1⟩ := mark_cells HPs.out ix hixM
        obtain ⟨T, hT, hT2⟩ := str_of (M[ix]'hixM).name
        obtain ⟨N, hN⟩ : ∃ N, N = (M[ix]'hixM).n := ⟨_, rfl⟩
        rw [hT2] at u0
        rw [← hN] at u1
        have HNM := Lib.hid (show numM M T.data.toList = N by rw [hT, hN]; exact num_of HU.out (List.getElem_mem hixM))
        have HNi := Lib.hid (show inI N by rw [hN]; exact HIn.out _ (List.getElem_mem hixM))
        have HTh := Lib.hid (show hasM M T.data.toList = true by rw [hT]; exact has_iff.2 ⟨_, List.getElem_mem hixM, rfl⟩)
        subst eqz
        obtain ⟨z0, z1, y0, y1⟩ := mz_facts w6
        have v0 := ((Kit.below1 w6 (.cells #[.string ⟨#[]⟩, .int .i64 0] 39)).cell (p := ⟨bm, offm + ix * 2, none⟩) hbm).trans u0
        have v1 := ((Kit.below1 w6 (.cells #[.string ⟨#[]⟩, .int .i64 0] 39)).cell (p := ⟨bm, offm + ix * 2 + 1, none⟩) hbm).trans u1
        obtain ⟨-, -, ra0, ra1, ra2, ra3, ra4⟩ := HV8.out.room
        dsimp only at ra0 ra1 ra2 ra3 ra4
        go_upto_region 14 with fail
        clear ra0 ra1 ra2 ra3 ra4
        have hr0 : VB _ g8 ⟨k8, S8, ql8, nl8, cl8, qh8, nh8, ch8, (some ⟨bm, offm, none⟩), nz8, cz8, d8⟩ := HV8.out
        obtain ⟨-, -, r00, r01, r02, r03, r04⟩ := hr0.room
        dsimp only at r00 r01 r02 r03 r04
        clear hr0
        have hr1 : VB _ g8 ⟨k8, S8, ql8, nl8, cl8, qh8, nh8, ch8, (some ⟨bm, offm, none⟩), nz8, cz8, d8⟩ := HV8.out.keep (Kit.below1 w6 (.cells #[.string ⟨#[]⟩, .int .i64 0] 39))
        obtain ⟨-, -, r10, r11, r12, r13, r14⟩ := hr1.room
        dsimp only at r10 r11 r12 r13 r14
        clear hr1
        clear hT hT2 hN hix hixM hbm HPs HE8
        go_cut [14] (fun s14 wx => ∃ g, s14 = .pointer (some ⟨g, 0, none⟩) ∧ Hid (MC wx g T N) ∧ Hid (Below w6.heap.size w6 wx))
        case first =>
          go_region
          all_goals
            go_wp2_with fail
            go_meet
            first
              | exact ⟨_, rfl, Lib.hid (mc_new w6 T N), Lib.hid (Kit.below1 w6 _)⟩
              | exact ⟨_, rfl, Lib.hid (mc_new w6.drew T N), Lib.hid (Kit.below1 w6.drew _)⟩
              | exact ⟨_, rfl, Lib.hid (mz_set w6 T N).1, Lib.hid (mz_set w6 T N).2⟩
              | exact ⟨_, rfl, Lib.hid (mz_set w6.drew T N).1, Lib.hid (mz_set w6.drew T N).2⟩
              | exact ⟨_, rfl, Lib.hid ((mc_new w6 T N).keep (Below.refl _ _).drew), Lib.hid (Kit.below1 w6 _).drew⟩
              | exact ⟨_, rfl, Lib.hid ((mz_set w6 T N).1.keep (Below.refl _ _).drew), Lib.hid (mz_set w6 T N).2.drew⟩
        case rest =>
        obtain ⟨g14, rfl, HMC, hbn⟩ := hcut
        rename World => w7
        have HV8 := Lib.hid (HV8.out.keep hbn.out)
        have HB := Lib.hid (HB.out.trans (hbn.out.mono HB.out.size))
        clear hbn v0 v1 u0 u1 z0 z1 y0 y1 r00 r01 r02 r03 r04 r10 r11 r12 r13 r14
        have mc1 := HMC.out.c1
        go_upto_region 16 with fail
        rw [← hx]
        clear hx e1 e2 ix0 ixn t0 t01
        have CAd := Lib.hid (Ref01.add_ref N x w7 HNi.out.1 HNi.out.2 (by have := HX.out; omega) (by have := HX.out; omega))
        have HSm := Lib.hid (addV_bounds N x)
        have HMr := Lib.hid (more_row M F1.data.toList T.data.toList x HF1.out (by have := HX.out; omega) (by have := HX.out; omega))
        rw [HNM.out] at HMr
        generalize addV N x = sm at CAd HSm HMr
        generalize addB N x = fb at CAd HMr
        go_wp2_with fail
        with_reducible refine CAd.out.mono ?_
        rintro e w8 ⟨rfl, rfl⟩
        rename World => w7
        clear mc1 CAd HNM HNi
        have HMT := Lib.hid (fun Y (hY : Below w7.heap.size w7 Y) => (HMC.out.keep hY).c0)
        obtain ⟨R5, Y5, hRY⟩ : ∃ R Y, rowD 5 M [F1.data.toList, T.data.toList] = (R, Y) := ⟨_, _, rfl⟩
        have HMq := Lib.hid (hRY.symm.trans HMr.out)
        have HRY := Lib.hid hRY
        clear hRY
        obtain ⟨NY, HNY⟩ : ∃ NR, Hid (Y5.length = NR) := ⟨_, Lib.hid rfl⟩
        obtain ⟨XY, HXY⟩ : ∃ XR : ByteArray, Hid (XR.data.toList = Y5) := ⟨⟨Y5.toArray⟩, Lib.hid rfl⟩
        go_upto_region 17 with fail
        have CD := Lib.hid (fun (Y : World) (g : Nat) (hB : Below w.heap.size w Y) (hpv : PV.In Y ⟨k8, S8, ql8, nl8, cl8, qh8, nh8, ch8, (some ⟨bm, offm, none⟩), nz8, cz8, d8⟩) (hss : StrT.Ss Y (some ⟨g, 0, none⟩) [(⟨#[122, 105, 110, 99, 114, 98, 121]⟩ : ByteArray).data.toList, (⟨#[107]⟩ : ByteArray).data.toList, (F1 : ByteArray).data.toList, (T : ByteArray).data.toList]) => (show Calls Tryd.prog 11 #[.agg #[.int .u8 k8, .string S8, .slice ql8 nl8 cl8, .slice qh8 nh8 ch8, .slice (some ⟨bm, offm, none⟩) nz8 cz8], .slice (some ⟨g, 0, none⟩) 4 4] Y (DoN (zV (R5)) (Y5) Y) from don_to (HRY.out) (onR 5 (by decide) ⟨k8, S8, ql8, nl8, cl8, qh8, nh8, ch8, (some ⟨bm, offm, none⟩), nz8, cz8, d8⟩ (M) ⟨#[122, 105, 110, 99, 114, 98, 121]⟩ ⟨#[107]⟩ [(F1 : ByteArray).data.toList, (T : ByteArray).data.toList] (some ⟨g, 0, none⟩) 4 4 Y hpv HD8.out (HG.out Y hB) rfl (Nat.le_refl _) (by decide) hss (by decide) (by decide) ⟨HU.out, HIn.out, by have := H8.out; omega, Nat.le_refl 2, by show F1.data.toList.length ≤ _; rw [str_len]; omega⟩)))
        go_cut [18, 19] (fun s18 s19 wx => ∃ (g : Nat) (k3 : Int) (S3 : ByteArray) (ql3 : Option Addr) (nl3 cl3 : Nat) (qh3 : Option Addr) (nh3 ch3 : Nat) (qz3 : Option Addr) (nz3 cz3 : Nat) (d3 : V), ∃ (qr : Option Addr) (cr : Nat), s18 = .pointer (some ⟨g, 0, none⟩) ∧ s19 = .slice qr NY cr ∧ Hid (VB wx g ⟨k3, S3, ql3, nl3, cl3, qh3, nh3, ch3, qz3, nz3, cz3, d3⟩) ∧ Hid (d3 = zV R5) ∧ Hid (Below w7.heap.size w7 wx) ∧ Hid (∀ W, Below wx.heap.size wx W → (convert 29 9 (.slice qr NY cr)).run Tryd.prog W = .ok (.string XY) W))
        case first =>
          have HL0 := Lib.hid HB.out.size
          have hr0 := fun Y (h : Below w7.heap.size w7 Y) => (VB.room (p := ⟨k8, S8, ql8, nl8, cl8, qh8, nh8, ch8, (some ⟨bm, offm, none⟩), nz8, cz8, d8⟩) (HV8.out.keep h)).c0
          have hr1 := fun Y (h : Below w7.heap.size w7 Y) => (VB.room (p := ⟨k8, S8, ql8, nl8, cl8, qh8, nh8, ch8, (some ⟨bm, offm, none⟩), nz8, cz8, d8⟩) (HV8.out.keep h)).c1
          have hr2 := fun Y (h : Below w7.heap.size w7 Y) => (VB.room (p := ⟨k8, S8, ql8, nl8, cl8, qh8, nh8, ch8, (some ⟨bm, offm, none⟩), nz8, cz8, d8⟩) (HV8.out.keep h)).c2
          have hr3 := fun Y (h : Below w7.heap.size w7 Y) => (VB.room (p := ⟨k8, S8, ql8, nl8, cl8, qh8, nh8, ch8, (some ⟨bm, offm, none⟩), nz8, cz8, d8⟩) (HV8.out.keep h)).c3
          have hr4 := fun Y (h : Below w7.heap.size w7 Y) => (VB.room (p := ⟨k8, S8, ql8, nl8, cl8, qh8, nh8, ch8, (some ⟨bm, offm, none⟩), nz8, cz8, d8⟩) (HV8.out.keep h)).c4
          dsimp only at hr0 hr1 hr2 hr3 hr4
          have hcl := HMT.out
          refine wp_region_held_drew (S := fun W => Below w7.heap.size w7 W) (by kernel_rfl) ?_ (fun hHeld => ?_)
          · exact (Below.refl _ _).drew
          have hHeld : Below w7.heap.size w7 w7.drew := hHeld
          refine wpAnyH_take (i := 0) (v := ?_) rfl (by kernel_rfl) (by kernel_rfl) (by kernel_rfl) (fun _ _ _ h => h) (Or.inl ⟨by rfl, ?_⟩) (by assumption) ?_
          rotate_left
          · intro W0 hSw; have hSa : Below w7.heap.size w7 W0 := hSw; go_simp; all_goals (with_reducible rfl)
          try simp only [Act.put, List.getElem_toArray, List.getElem_cons_zero, List.setIfInBounds_toArray, List.set_cons_zero, List.set_cons_succ]
          refine wpAnyH_take (i := 1) (v := ?_) rfl (by kernel_rfl) (by kernel_rfl) (by kernel_rfl) (fun _ _ _ h => h) (Or.inl ⟨by rfl, ?_⟩) (by assumption) ?_
          rotate_left
          · intro W0 hSw; have hSa : Below w7.heap.size w7 W0 := hSw; go_simp; all_goals (with_reducible rfl)
          try simp only [Act.put, List.getElem_toArray, List.setIfInBounds_toArray]
          refine wpAnyH_take (i := 3) (v := ?_) rfl (by kernel_rfl) (by kernel_rfl) (by kernel_rfl) (fun _ _ _ h => h) (Or.inl ⟨by rfl, ?_⟩) (by assumption) ?_
          rotate_left
          · intro W0 hSw; have hSa : Below w7.heap.size w7 W0 := hSw; go_simp; all_goals (with_reducible rfl)
          try simp only [Act.put, List.getElem_toArray]
          refine wpAnyH_take (i := 4) (v := ?_) rfl (by kernel_rfl) (by kernel_rfl) (by kernel_rfl) (fun _ _ _ h => h) (Or.inl ⟨by rfl, ?_⟩) (by assumption) ?_
          rotate_left
          · intro W0 hSw; have hSa : Below w7.heap.size w7 W0 := hSw; go_simp; all_goals (with_reducible rfl)
          try simp only [Act.put, List.getElem_toArray]
          refine wpAnyH_ready (rs := [2, 10]) (by kernel_rfl) (by simp) ?_
          refine AllReadyH.cons rfl (fun K hK => ?_) ?_
          · go_simp
            with_reducible refine (CT1.out _).mono ?_
            rintro e wq4 ⟨rfl, hb4⟩
            dsimp only
            have hb4' : Below w7.heap.size w7 wq4 := by first | exact hb4 | exact c_dr hb4 | exact c_al hb4 | exact c_da hb4
            have HB4 := Lib.hid (HB.out.trans (hb4'.mono HB.out.size))
            have HW4 := Lib.hid hb4'
            have HL4 := Lib.hid hb4'.size
            have K_8 := Lib.hid (HV8.out.keep hb4')
            first
              | (have HZ4 := Lib.hid (show VZ wq4 w7.heap.size from vz_al hb4))
              | (have HZ4 := Lib.hid (show VZ wq4 w7.heap.size from vz_da hb4))
              | skip
            clear hb4 hb4'
            refine hK.out _ _ ?_ (fun hH2 => ?_)
            · exact HW4.out
            clear hK K hHeld
            have hHeld := (show Below w7.heap.size w7 _ from hH2)
            clear hH2
            try simp only [Act.put, List.getElem_toArray, List.getElem_cons_zero, List.setIfInBounds_toArray, List.set_cons_zero, List.set_cons_succ]
            refine wpAnyH_ready (rs := [5, 10]) (by kernel_rfl) (by simp) ?_
            refine AllReadyH.cons rfl (fun K hK => ?_) ?_
            · go_simp
              refine hK.out _ _ ?_ (fun hH2 => ?_)
              · exact Below.alloc hHeld (Below.size hHeld) _
              clear hK K hHeld
              have hHeld := (show Below w7.heap.size w7 _ from hH2)
              clear hH2
              try simp only [Act.put, List.getElem_toArray, List.getElem_cons_zero, List.setIfInBounds_toArray, List.set_cons_zero, List.set_cons_succ]
              refine wpAnyH_ready (rs := [6, 10]) (by kernel_rfl) (by simp) ?_
              refine AllReadyH.cons rfl (fun K hK => ?_) ?_
              · go_simp
                with_reducible refine (CD.out _ _ (by first | exact HB4.out.alloc HB4.out.size _ | exact (HB4.out.alloc HB4.out.size _).alloc (Below.size (HB4.out.alloc HB4.out.size _)) _) (by first | exact (K_8.out.keep (Kit.below1 _ _)).pv | exact ((K_8.out.keep (Kit.below1 _ _)).keep (Kit.below1 _ _)).pv) (by first | exact ss4_at wq4 _ rfl ⟨#[122, 105, 110, 99, 114, 98, 121]⟩ ⟨#[107]⟩ F1 T | exact ss4_at _ _ (by simp) ⟨#[122, 105, 110, 99, 114, 98, 121]⟩ ⟨#[107]⟩ F1 T | exact StrT.Ss.keep (ss4_at wq4 _ rfl ⟨#[122, 105, 110, 99, 114, 98, 121]⟩ ⟨#[107]⟩ F1 T) (Kit.below1 _ _))).mono ?_
                rintro e wq5 ⟨p9, vr, rfl, hI, hd, hn, hA, hb5⟩
                dsimp only [PV.agg]
                obtain ⟨k9, S9, ql9, nl9, cl9, qh9, nh9, ch9, qz9, nz9, cz9, d9⟩ := p9
                dsimp only
                obtain ⟨q9, c9, rfl, -⟩ := ans_text hA NY HNY.out XY HXY.out
                have hb5' : Below wq4.heap.size wq4 wq5 := by first | exact c_al (c_al hb5) | exact c_al hb5
                have HB5 := Lib.hid (HB4.out.trans (hb5'.mono HB4.out.size))
                have HL5 := Lib.hid hb5'.size
                have HE9 := Lib.hid (show d9 = _ from hd)
                have HW5 := Lib.hid (HW4.out.trans (hb5'.mono HW4.out.size))
                first
                  | (have hzl := HZ4.out.lt
                     have hzc := HZ4.out.keep hb5'
                     have HGt := Lib.hid (gov_five (w := w7) hzc hI (fun j hj => by have h1 := hn j hj; have := HL4.out; first | omega | (simp at h1; omega)) (by have := HL4.out; omega) HW5.out hA (by have := HL4.out; have := HL0.out; first | (simp; done) | (simp; omega)))
                     obtain ⟨⟨z0, z1, z2, z3, z4⟩, y0, y1, y2, y3, y4⟩ := vz_facts hzc
                     clear hzc)
                  | (have hzc : VZ wq5 wq4.heap.size := vz_al (c_al hb5)
                     have HGt := Lib.hid (gov_five (w := w7) hzc hI (fun j hj => by have h1 := hn j hj; have := HL4.out; first | omega | (simp at h1; omega)) (by have := HL4.out; omega) HW5.out hA (by have := HL4.out; have := HL0.out; first | (simp; done) | (simp; omega)))
                     obtain ⟨⟨z0, z1, z2, z3, z4⟩, y0, y1, y2, y3, y4⟩ := vz_facts hzc
                     clear hzc)
                  | (have hzc : VZ wq5 (wq4.alloc (.cells #[.string ⟨#[122, 105, 110, 99, 114, 98, 121]⟩, .string ⟨#[107]⟩, .string F1, .string T] 9)).heap.size := vz_al hb5
                     rw [show (wq4.alloc (.cells #[.string ⟨#[122, 105, 110, 99, 114, 98, 121]⟩, .string ⟨#[107]⟩, .string F1, .string T] 9)).heap.size = wq4.heap.size + 1 by simp] at hzc
                     have HGt := Lib.hid (gov_five (w := w7) hzc hI (fun j hj => by have h1 := hn j hj; have := HL4.out; first | omega | (simp at h1; omega)) (by have := HL4.out; omega) HW5.out hA (by have := HL4.out; have := HL0.out; first | (simp; done) | (simp; omega)))
                     obtain ⟨⟨z0, z1, z2, z3, z4⟩, y0, y1, y2, y3, y4⟩ := vz_facts hzc
                     clear hzc)
                  | (have HGt := Lib.hid (gov_new (w := w7) hI HW5.out hA))
                clear hI hd hn hA hb5 hb5'
                refine hK.out _ _ ?_ (fun hH2 => ?_)
                · exact HW5.out
                clear hK K hHeld
                have hHeld := (show Below w7.heap.size w7 _ from hH2)
                clear hH2
                try simp only [Act.put, List.getElem_toArray, List.getElem_cons_zero, List.setIfInBounds_toArray, List.set_cons_zero, List.set_cons_succ]
                refine wpAnyH_take (i := 7) (v := ?_) rfl (by kernel_rfl) (by kernel_rfl) (by kernel_rfl) (fun _ _ _ h => h) (Or.inl ⟨by rfl, ?_⟩) (by assumption) ?_
                rotate_left
                · intro W0 hSw; have hSa : Below w7.heap.size w7 W0 := hSw; go_simp; all_goals (with_reducible rfl)
                try simp only [Act.put, List.getElem_toArray, List.setIfInBounds_toArray]
                refine wpAnyH_take (i := 8) (v := ?_) rfl (by kernel_rfl) (by kernel_rfl) (by kernel_rfl) (fun _ _ _ h => h) (Or.inl ⟨by rfl, ?_⟩) (by assumption) ?_
                rotate_left
                · intro W0 hSw; have hSa : Below w7.heap.size w7 W0 := hSw; go_simp; all_goals (with_reducible rfl)
                try simp only [Act.put, List.getElem_toArray]
                refine wpAnyH_take (i := 9) (v := ?_) rfl (by kernel_rfl) (by kernel_rfl) (by kernel_rfl) (fun _ _ _ h => h) (Or.inl ⟨by rfl, ?_⟩) (by assumption) ?_
                rotate_left
                · intro W0 hSw; have hSa : Below w7.heap.size w7 W0 := hSw; go_simp; all_goals (with_reducible rfl)
                try simp only [Act.put, List.getElem_toArray]
                refine wpAnyH_ready (rs := [10]) (by kernel_rfl) (by simp) ?_
                refine AllReadyH.cons rfl (fun K hK => ?_) ?_
                · go_simp
                  refine hK.out _ _ ?_ (fun hH2 => ?_)
                  · exact Below.alloc hHeld (Below.size hHeld) _
                  clear hK K hHeld
                  have hHeld := (show Below w7.heap.size w7 _ from hH2)
                  clear hH2
                  try simp only [Act.put, List.getElem_toArray, List.getElem_cons_zero, List.setIfInBounds_toArray, List.set_cons_zero, List.set_cons_succ]
                  refine wpAnyH_ready (rs := [11]) (by kernel_rfl) (by simp) ?_
                  refine AllReadyH.cons rfl (fun K hK => ?_) ?_
                  · go_simp
                    refine hK.out _ _ ?_ (fun hH2 => ?_)
                    · exact HGt.out.b
                    clear hK K hHeld
                    have hHeld := (show Below w7.heap.size w7 _ from hH2)
                    clear hH2
                    try simp only [Act.put, List.getElem_toArray, List.getElem_cons_zero, List.setIfInBounds_toArray, List.set_cons_zero, List.set_cons_succ]
                    refine wpAnyH_take (i := 12) (v := ?_) rfl (by kernel_rfl) (by kernel_rfl) (by kernel_rfl) (fun _ _ _ h => h) (Or.inl ⟨by rfl, ?_⟩) (by assumption) ?_
                    rotate_left
                    · intro W0 hSw; have hSa : Below w7.heap.size w7 W0 := hSw; go_simp; all_goals (with_reducible rfl)
                    try simp only [Act.put, List.getElem_toArray, List.setIfInBounds_toArray]
                    refine wpAnyH_done (by kernel_rfl) ?_ _
                    go_wp2_with fail
                    go_meet
                    exact ⟨_, _, _, _, _, _, _, _, _, _, _, _, _, _, _, rfl, rfl, Lib.hid HGt.out.v, HE9, Lib.hid HGt.out.b, Lib.hid (ans_at HGt.out.a XY HXY.out)⟩
                  exact AllReadyH.nil
                exact AllReadyH.nil
              refine AllReadyH.cons rfl (fun K hK => ?_) ?_
              · go_simp
                refine hK.out _ _ ?_ (fun hH2 => ?_)
                · exact Below.alloc hHeld (Below.size hHeld) _
                clear hK K hHeld
                have hHeld := (show Below w7.heap.size w7 _ from hH2)
                clear hH2
                try simp only [Act.put, List.getElem_toArray, List.getElem_cons_zero, List.setIfInBounds_toArray, List.set_cons_zero, List.set_cons_succ]
                refine wpAnyH_ready (rs := [6]) (by kernel_rfl) (by simp) ?_
                refine AllReadyH.cons rfl (fun K hK => ?_) ?_
                · go_simp
                  with_reducible refine (CD.out _ _ (by first | exact HB4.out.alloc HB4.out.size _ | exact (HB4.out.alloc HB4.out.size _).alloc (Below.size (HB4.out.alloc HB4.out.size _)) _) (by first | exact (K_8.out.keep (Kit.below1 _ _)).pv | exact ((K_8.out.keep (Kit.below1 _ _)).keep (Kit.below1 _ _)).pv) (by first | exact ss4_at wq4 _ rfl ⟨#[122, 105, 110, 99, 114, 98, 121]⟩ ⟨#[107]⟩ F1 T | exact ss4_at _ _ (by simp) ⟨#[122, 105, 110, 99, 114, 98, 121]⟩ ⟨#[107]⟩ F1 T | exact StrT.Ss.keep (ss4_at wq4 _ rfl ⟨#[122, 105, 110, 99, 114, 98, 121]⟩ ⟨#[107]⟩ F1 T) (Kit.below1 _ _))).mono ?_
                  rintro e wq5 ⟨p9, vr, rfl, hI, hd, hn, hA, hb5⟩
                  dsimp only [PV.agg]
                  obtain ⟨k9, S9, ql9, nl9, cl9, qh9, nh9, ch9, qz9, nz9, cz9, d9⟩ := p9
                  dsimp only
                  obtain ⟨q9, c9, rfl, -⟩ := ans_text hA NY HNY.out XY HXY.out
                  have hb5' : Below wq4.heap.size wq4 wq5 := by first | exact c_al (c_al hb5) | exact c_al hb5
                  have HB5 := Lib.hid (HB4.out.trans (hb5'.mono HB4.out.size))
                  have HL5 := Lib.hid hb5'.size
                  have HE9 := Lib.hid (show d9 = _ from hd)
                  have HW5 := Lib.hid (HW4.out.trans (hb5'.mono HW4.out.size))
                  first
                    | (have hzl := HZ4.out.lt
                       have hzc := HZ4.out.keep hb5'
                       have HGt := Lib.hid (gov_five (w := w7) hzc hI (fun j hj => by have h1 := hn j hj; have := HL4.out; first | omega | (simp at h1; omega)) (by have := HL4.out; omega) HW5.out hA (by have := HL4.out; have := HL0.out; first | (simp; done) | (simp; omega)))
                       obtain ⟨⟨z0, z1, z2, z3, z4⟩, y0, y1, y2, y3, y4⟩ := vz_facts hzc
                       clear hzc)
                    | (have hzc : VZ wq5 wq4.heap.size := vz_al (c_al hb5)
                       have HGt := Lib.hid (gov_five (w := w7) hzc hI (fun j hj => by have h1 := hn j hj; have := HL4.out; first | omega | (simp at h1; omega)) (by have := HL4.out; omega) HW5.out hA (by have := HL4.out; have := HL0.out; first | (simp; done) | (simp; omega)))
                       obtain ⟨⟨z0, z1, z2, z3, z4⟩, y0, y1, y2, y3, y4⟩ := vz_facts hzc
                       clear hzc)
                    | (have hzc : VZ wq5 (wq4.alloc (.cells #[.string ⟨#[122, 105, 110, 99, 114, 98, 121]⟩, .string ⟨#[107]⟩, .string F1, .string T] 9)).heap.size := vz_al hb5
                       rw [show (wq4.alloc (.cells #[.string ⟨#[122, 105, 110, 99, 114, 98, 121]⟩, .string ⟨#[107]⟩, .string F1, .string T] 9)).heap.size = wq4.heap.size + 1 by simp] at hzc
                       have HGt := Lib.hid (gov_five (w := w7) hzc hI (fun j hj => by have h1 := hn j hj; have := HL4.out; first | omega | (simp at h1; omega)) (by have := HL4.out; omega) HW5.out hA (by have := HL4.out; have := HL0.out; first | (simp; done) | (simp; omega)))
                       obtain ⟨⟨z0, z1, z2, z3, z4⟩, y0, y1, y2, y3, y4⟩ := vz_facts hzc
                       clear hzc)
                    | (have HGt := Lib.hid (gov_new (w := w7) hI HW5.out hA))
                  clear hI hd hn hA hb5 hb5'
                  refine hK.out _ _ ?_ (fun hH2 => ?_)
                  · exact HW5.out
                  clear hK K hHeld
                  have hHeld := (show Below w7.heap.size w7 _ from hH2)
                  clear hH2
                  try simp only [Act.put, List.getElem_toArray, List.getElem_cons_zero, List.setIfInBounds_toArray, List.set_cons_zero, List.set_cons_succ]
                  refine wpAnyH_take (i := 7) (v := ?_) rfl (by kernel_rfl) (by kernel_rfl) (by kernel_rfl) (fun _ _ _ h => h) (Or.inl ⟨by rfl, ?_⟩) (by assumption) ?_
                  rotate_left
                  · intro W0 hSw; have hSa : Below w7.heap.size w7 W0 := hSw; go_simp; all_goals (with_reducible rfl)
                  try simp only [Act.put, List.getElem_toArray, List.setIfInBounds_toArray]
                  refine wpAnyH_take (i := 8) (v := ?_) rfl (by kernel_rfl) (by kernel_rfl) (by kernel_rfl) (fun _ _ _ h => h) (Or.inl ⟨by rfl, ?_⟩) (by assumption) ?_
                  rotate_left
                  · intro W0 hSw; have hSa : Below w7.heap.size w7 W0 := hSw; go_simp; all_goals (with_reducible rfl)
                  try simp only [Act.put, List.getElem_toArray]
                  refine wpAnyH_take (i := 9) (v := ?_) rfl (by kernel_rfl) (by kernel_rfl) (by kernel_rfl) (fun _ _ _ h => h) (Or.inl ⟨by rfl, ?_⟩) (by assumption) ?_
                  rotate_left
                  · intro W0 hSw; have hSa : Below w7.heap.size w7 W0 := hSw; go_simp; all_goals (with_reducible rfl)
                  try simp only [Act.put, List.getElem_toArray]
                  refine wpAnyH_ready (rs := [11]) (by kernel_rfl) (by simp) ?_
                  refine AllReadyH.cons rfl (fun K hK => ?_) ?_
                  · go_simp
                    refine hK.out _ _ ?_ (fun hH2 => ?_)
                    · exact HGt.out.b
                    clear hK K hHeld
                    have hHeld := (show Below w7.heap.size w7 _ from hH2)
                    clear hH2
                    try simp only [Act.put, List.getElem_toArray, List.getElem_cons_zero, List.setIfInBounds_toArray, List.set_cons_zero, List.set_cons_succ]
                    refine wpAnyH_take (i := 12) (v := ?_) rfl (by kernel_rfl) (by kernel_rfl) (by kernel_rfl) (fun _ _ _ h => h) (Or.inl ⟨by rfl, ?_⟩) (by assumption) ?_
                    rotate_left
                    · intro W0 hSw; have hSa : Below w7.heap.size w7 W0 := hSw; go_simp; all_goals (with_reducible rfl)
                    try simp only [Act.put, List.getElem_toArray, List.setIfInBounds_toArray]
                    refine wpAnyH_done (by kernel_rfl) ?_ _
                    go_wp2_with fail
                    go_meet
                    exact ⟨_, _, _, _, _, _, _, _, _, _, _, _, _, _, _, rfl, rfl, Lib.hid HGt.out.v, HE9, Lib.hid HGt.out.b, Lib.hid (ans_at HGt.out.a XY HXY.out)⟩
                  exact AllReadyH.nil
                exact AllReadyH.nil
              exact AllReadyH.nil
            refine AllReadyH.cons rfl (fun K hK => ?_) ?_
            · go_simp
              refine hK.out _ _ ?_ (fun hH2 => ?_)
              · exact Below.alloc hHeld (Below.size hHeld) _
              clear hK K hHeld
              have hHeld := (show Below w7.heap.size w7 _ from hH2)
              clear hH2
              try simp only [Act.put, List.getElem_toArray, List.getElem_cons_zero, List.setIfInBounds_toArray, List.set_cons_zero, List.set_cons_succ]
              refine wpAnyH_ready (rs := [5]) (by kernel_rfl) (by simp) ?_
              refine AllReadyH.cons rfl (fun K hK => ?_) ?_
              · go_simp
                refine hK.out _ _ ?_ (fun hH2 => ?_)
                · exact Below.alloc hHeld (Below.size hHeld) _
                clear hK K hHeld
                have hHeld := (show Below w7.heap.size w7 _ from hH2)
                clear hH2
                try simp only [Act.put, List.getElem_toArray, List.getElem_cons_zero, List.setIfInBounds_toArray, List.set_cons_zero, List.set_cons_succ]
                refine wpAnyH_ready (rs := [6]) (by kernel_rfl) (by simp) ?_
                refine AllReadyH.cons rfl (fun K hK => ?_) ?_
                · go_simp
                  with_reducible refine (CD.out _ _ (by first | exact HB4.out.alloc HB4.out.size _ | exact (HB4.out.alloc HB4.out.size _).alloc (Below.size (HB4.out.alloc HB4.out.size _)) _) (by first | exact (K_8.out.keep (Kit.below1 _ _)).pv | exact ((K_8.out.keep (Kit.below1 _ _)).keep (Kit.below1 _ _)).pv) (by first | exact ss4_at wq4 _ rfl ⟨#[122, 105, 110, 99, 114, 98, 121]⟩ ⟨#[107]⟩ F1 T | exact ss4_at _ _ (by simp) ⟨#[122, 105, 110, 99, 114, 98, 121]⟩ ⟨#[107]⟩ F1 T | exact StrT.Ss.keep (ss4_at wq4 _ rfl ⟨#[122, 105, 110, 99, 114, 98, 121]⟩ ⟨#[107]⟩ F1 T) (Kit.below1 _ _))).mono ?_
                  rintro e wq5 ⟨p9, vr, rfl, hI, hd, hn, hA, hb5⟩
                  dsimp only [PV.agg]
                  obtain ⟨k9, S9, ql9, nl9, cl9, qh9, nh9, ch9, qz9, nz9, cz9, d9⟩ := p9
                  dsimp only
                  obtain ⟨q9, c9, rfl, -⟩ := ans_text hA NY HNY.out XY HXY.out
                  have hb5' : Below wq4.heap.size wq4 wq5 := by first | exact c_al (c_al hb5) | exact c_al hb5
                  have HB5 := Lib.hid (HB4.out.trans (hb5'.mono HB4.out.size))
                  have HL5 := Lib.hid hb5'.size
                  have HE9 := Lib.hid (show d9 = _ from hd)
                  have HW5 := Lib.hid (HW4.out.trans (hb5'.mono HW4.out.size))
                  first
                    | (have hzl := HZ4.out.lt
                       have hzc := HZ4.out.keep hb5'
                       have HGt := Lib.hid (gov_five (w := w7) hzc hI (fun j hj => by have h1 := hn j hj; have := HL4.out; first | omega | (simp at h1; omega)) (by have := HL4.out; omega) HW5.out hA (by have := HL4.out; have := HL0.out; first | (simp; done) | (simp; omega)))
                       obtain ⟨⟨z0, z1, z2, z3, z4⟩, y0, y1, y2, y3, y4⟩ := vz_facts hzc
                       clear hzc)
                    | (have hzc : VZ wq5 wq4.heap.size := vz_al (c_al hb5)
                       have HGt := Lib.hid (gov_five (w := w7) hzc hI (fun j hj => by have h1 := hn j hj; have := HL4.out; first | omega | (simp at h1; omega)) (by have := HL4.out; omega) HW5.out hA (by have := HL4.out; have := HL0.out; first | (simp; done) | (simp; omega)))
                       obtain ⟨⟨z0, z1, z2, z3, z4⟩, y0, y1, y2, y3, y4⟩ := vz_facts hzc
                       clear hzc)
                    | (have hzc : VZ wq5 (wq4.alloc (.cells #[.string ⟨#[122, 105, 110, 99, 114, 98, 121]⟩, .string ⟨#[107]⟩, .string F1, .string T] 9)).heap.size := vz_al hb5
                       rw [show (wq4.alloc (.cells #[.string ⟨#[122, 105, 110, 99, 114, 98, 121]⟩, .string ⟨#[107]⟩, .string F1, .string T] 9)).heap.size = wq4.heap.size + 1 by simp] at hzc
                       have HGt := Lib.hid (gov_five (w := w7) hzc hI (fun j hj => by have h1 := hn j hj; have := HL4.out; first | omega | (simp at h1; omega)) (by have := HL4.out; omega) HW5.out hA (by have := HL4.out; have := HL0.out; first | (simp; done) | (simp; omega)))
                       obtain ⟨⟨z0, z1, z2, z3, z4⟩, y0, y1, y2, y3, y4⟩ := vz_facts hzc
                       clear hzc)
                    | (have HGt := Lib.hid (gov_new (w := w7) hI HW5.out hA))
                  clear hI hd hn hA hb5 hb5'
                  refine hK.out _ _ ?_ (fun hH2 => ?_)
                  · exact HW5.out
                  clear hK K hHeld
                  have hHeld := (show Below w7.heap.size w7 _ from hH2)
                  clear hH2
                  try simp only [Act.put, List.getElem_toArray, List.getElem_cons_zero, List.setIfInBounds_toArray, List.set_cons_zero, List.set_cons_succ]
                  refine wpAnyH_take (i := 7) (v := ?_) rfl (by kernel_rfl) (by kernel_rfl) (by kernel_rfl) (fun _ _ _ h => h) (Or.inl ⟨by rfl, ?_⟩) (by assumption) ?_
                  rotate_left
                  · intro W0 hSw; have hSa : Below w7.heap.size w7 W0 := hSw; go_simp; all_goals (with_reducible rfl)
                  try simp only [Act.put, List.getElem_toArray, List.setIfInBounds_toArray]
                  refine wpAnyH_take (i := 8) (v := ?_) rfl (by kernel_rfl) (by kernel_rfl) (by kernel_rfl) (fun _ _ _ h => h) (Or.inl ⟨by rfl, ?_⟩) (by assumption) ?_
                  rotate_left
                  · intro W0 hSw; have hSa : Below w7.heap.size w7 W0 := hSw; go_simp; all_goals (with_reducible rfl)
                  try simp only [Act.put, List.getElem_toArray]
                  refine wpAnyH_take (i := 9) (v := ?_) rfl (by kernel_rfl) (by kernel_rfl) (by kernel_rfl) (fun _ _ _ h => h) (Or.inl ⟨by rfl, ?_⟩) (by assumption) ?_
                  rotate_left
                  · intro W0 hSw; have hSa : Below w7.heap.size w7 W0 := hSw; go_simp; all_goals (with_reducible rfl)
                  try simp only [Act.put, List.getElem_toArray]
                  refine wpAnyH_ready (rs := [11]) (by kernel_rfl) (by simp) ?_
                  refine AllReadyH.cons rfl (fun K hK => ?_) ?_
                  · go_simp
                    refine hK.out _ _ ?_ (fun hH2 => ?_)
                    · exact HGt.out.b
                    clear hK K hHeld
                    have hHeld := (show Below w7.heap.size w7 _ from hH2)
                    clear hH2
                    try simp only [Act.put, List.getElem_toArray, List.getElem_cons_zero, List.setIfInBounds_toArray, List.set_cons_zero, List.set_cons_succ]
                    refine wpAnyH_take (i := 12) (v := ?_) rfl (by kernel_rfl) (by kernel_rfl) (by kernel_rfl) (fun _ _ _ h => h) (Or.inl ⟨by rfl, ?_⟩) (by assumption) ?_
                    rotate_left
                    · intro W0 hSw; have hSa : Below w7.heap.size w7 W0 := hSw; go_simp; all_goals (with_reducible rfl)
                    try simp only [Act.put, List.getElem_toArray, List.setIfInBounds_toArray]
                    refine wpAnyH_done (by kernel_rfl) ?_ _
                    go_wp2_with fail
                    go_meet
                    exact ⟨_, _, _, _, _, _, _, _, _, _, _, _, _, _, _, rfl, rfl, Lib.hid HGt.out.v, HE9, Lib.hid HGt.out.b, Lib.hid (ans_at HGt.out.a XY HXY.out)⟩
                  exact AllReadyH.nil
                exact AllReadyH.nil
              exact AllReadyH.nil
            exact AllReadyH.nil
          refine AllReadyH.cons rfl (fun K hK => ?_) ?_
          · go_simp
            refine hK.out _ _ ?_ (fun hH2 => ?_)
            · exact Below.alloc hHeld (Below.size hHeld) _
            clear hK K hHeld
            have hHeld := (show Below w7.heap.size w7 _ from hH2)
            clear hH2
            try simp only [Act.put, List.getElem_toArray, List.getElem_cons_zero, List.setIfInBounds_toArray, List.set_cons_zero, List.set_cons_succ]
            refine wpAnyH_ready (rs := [2]) (by kernel_rfl) (by simp) ?_
            refine AllReadyH.cons rfl (fun K hK => ?_) ?_
            · go_simp
              with_reducible refine (CT1.out _).mono ?_
              rintro e wq4 ⟨rfl, hb4⟩
              dsimp only
              have hb4' : Below w7.heap.size w7 wq4 := by first | exact hb4 | exact c_dr hb4 | exact c_al hb4 | exact c_da hb4
              have HB4 := Lib.hid (HB.out.trans (hb4'.mono HB.out.size))
              have HW4 := Lib.hid hb4'
              have HL4 := Lib.hid hb4'.size
              have K_8 := Lib.hid (HV8.out.keep hb4')
              first
                | (have HZ4 := Lib.hid (show VZ wq4 w7.heap.size from vz_al hb4))
                | (have HZ4 := Lib.hid (show VZ wq4 w7.heap.size from vz_da hb4))
                | skip
              clear hb4 hb4'
              refine hK.out _ _ ?_ (fun hH2 => ?_)
              · exact HW4.out
              clear hK K hHeld
              have hHeld := (show Below w7.heap.size w7 _ from hH2)
              clear hH2
              try simp only [Act.put, List.getElem_toArray, List.getElem_cons_zero, List.setIfInBounds_toArray, List.set_cons_zero, List.set_cons_succ]
              refine wpAnyH_ready (rs := [5]) (by kernel_rfl) (by simp) ?_
              refine AllReadyH.cons rfl (fun K hK => ?_) ?_
              · go_simp
                refine hK.out _ _ ?_ (fun hH2 => ?_)
                · exact Below.alloc hHeld (Below.size hHeld) _
                clear hK K hHeld
                have hHeld := (show Below w7.heap.size w7 _ from hH2)
                clear hH2
                try simp only [Act.put, List.getElem_toArray, List.getElem_cons_zero, List.setIfInBounds_toArray, List.set_cons_zero, List.set_cons_succ]
                refine wpAnyH_ready (rs := [6]) (by kernel_rfl) (by simp) ?_
                refine AllReadyH.cons rfl (fun K hK => ?_) ?_
                · go_simp
                  with_reducible refine (CD.out _ _ (by first | exact HB4.out.alloc HB4.out.size _ | exact (HB4.out.alloc HB4.out.size _).alloc (Below.size (HB4.out.alloc HB4.out.size _)) _) (by first | exact (K_8.out.keep (Kit.below1 _ _)).pv | exact ((K_8.out.keep (Kit.below1 _ _)).keep (Kit.below1 _ _)).pv) (by first | exact ss4_at wq4 _ rfl ⟨#[122, 105, 110, 99, 114, 98, 121]⟩ ⟨#[107]⟩ F1 T | exact ss4_at _ _ (by simp) ⟨#[122, 105, 110, 99, 114, 98, 121]⟩ ⟨#[107]⟩ F1 T | exact StrT.Ss.keep (ss4_at wq4 _ rfl ⟨#[122, 105, 110, 99, 114, 98, 121]⟩ ⟨#[107]⟩ F1 T) (Kit.below1 _ _))).mono ?_
                  rintro e wq5 ⟨p9, vr, rfl, hI, hd, hn, hA, hb5⟩
                  dsimp only [PV.agg]
                  obtain ⟨k9, S9, ql9, nl9, cl9, qh9, nh9, ch9, qz9, nz9, cz9, d9⟩ := p9
                  dsimp only
                  obtain ⟨q9, c9, rfl, -⟩ := ans_text hA NY HNY.out XY HXY.out
                  have hb5' : Below wq4.heap.size wq4 wq5 := by first | exact c_al (c_al hb5) | exact c_al hb5
                  have HB5 := Lib.hid (HB4.out.trans (hb5'.mono HB4.out.size))
                  have HL5 := Lib.hid hb5'.size
                  have HE9 := Lib.hid (show d9 = _ from hd)
                  have HW5 := Lib.hid (HW4.out.trans (hb5'.mono HW4.out.size))
                  first
                    | (have hzl := HZ4.out.lt
                       have hzc := HZ4.out.keep hb5'
                       have HGt := Lib.hid (gov_five (w := w7) hzc hI (fun j hj => by have h1 := hn j hj; have := HL4.out; first | omega | (simp at h1; omega)) (by have := HL4.out; omega) HW5.out hA (by have := HL4.out; have := HL0.out; first | (simp; done) | (simp; omega)))
                       obtain ⟨⟨z0, z1, z2, z3, z4⟩, y0, y1, y2, y3, y4⟩ := vz_facts hzc
                       clear hzc)
                    | (have hzc : VZ wq5 wq4.heap.size := vz_al (c_al hb5)
                       have HGt := Lib.hid (gov_five (w := w7) hzc hI (fun j hj => by have h1 := hn j hj; have := HL4.out; first | omega | (simp at h1; omega)) (by have := HL4.out; omega) HW5.out hA (by have := HL4.out; have := HL0.out; first | (simp; done) | (simp; omega)))
                       obtain ⟨⟨z0, z1, z2, z3, z4⟩, y0, y1, y2, y3, y4⟩ := vz_facts hzc
                       clear hzc)
                    | (have hzc : VZ wq5 (wq4.alloc (.cells #[.string ⟨#[122, 105, 110, 99, 114, 98, 121]⟩, .string ⟨#[107]⟩, .string F1, .string T] 9)).heap.size := vz_al hb5
                       rw [show (wq4.alloc (.cells #[.string ⟨#[122, 105, 110, 99, 114, 98, 121]⟩, .string ⟨#[107]⟩, .string F1, .string T] 9)).heap.size = wq4.heap.size + 1 by simp] at hzc
                       have HGt := Lib.hid (gov_five (w := w7) hzc hI (fun j hj => by have h1 := hn j hj; have := HL4.out; first | omega | (simp at h1; omega)) (by have := HL4.out; omega) HW5.out hA (by have := HL4.out; have := HL0.out; first | (simp; done) | (simp; omega)))
                       obtain ⟨⟨z0, z1, z2, z3, z4⟩, y0, y1, y2, y3, y4⟩ := vz_facts hzc
                       clear hzc)
                    | (have HGt := Lib.hid (gov_new (w := w7) hI HW5.out hA))
                  clear hI hd hn hA hb5 hb5'
                  refine hK.out _ _ ?_ (fun hH2 => ?_)
                  · exact HW5.out
                  clear hK K hHeld
                  have hHeld := (show Below w7.heap.size w7 _ from hH2)
                  clear hH2
                  try simp only [Act.put, List.getElem_toArray, List.getElem_cons_zero, List.setIfInBounds_toArray, List.set_cons_zero, List.set_cons_succ]
                  refine wpAnyH_take (i := 7) (v := ?_) rfl (by kernel_rfl) (by kernel_rfl) (by kernel_rfl) (fun _ _ _ h => h) (Or.inl ⟨by rfl, ?_⟩) (by assumption) ?_
                  rotate_left
                  · intro W0 hSw; have hSa : Below w7.heap.size w7 W0 := hSw; go_simp; all_goals (with_reducible rfl)
                  try simp only [Act.put, List.getElem_toArray, List.setIfInBounds_toArray]
                  refine wpAnyH_take (i := 8) (v := ?_) rfl (by kernel_rfl) (by kernel_rfl) (by kernel_rfl) (fun _ _ _ h => h) (Or.inl ⟨by rfl, ?_⟩) (by assumption) ?_
                  rotate_left
                  · intro W0 hSw; have hSa : Below w7.heap.size w7 W0 := hSw; go_simp; all_goals (with_reducible rfl)
                  try simp only [Act.put, List.getElem_toArray]
                  refine wpAnyH_take (i := 9) (v := ?_) rfl (by kernel_rfl) (by kernel_rfl) (by kernel_rfl) (fun _ _ _ h => h) (Or.inl ⟨by rfl, ?_⟩) (by assumption) ?_
                  rotate_left
                  · intro W0 hSw; have hSa : Below w7.heap.size w7 W0 := hSw; go_simp; all_goals (with_reducible rfl)
                  try simp only [Act.put, List.getElem_toArray]
                  refine wpAnyH_ready (rs := [11]) (by kernel_rfl) (by simp) ?_
                  refine AllReadyH.cons rfl (fun K hK => ?_) ?_
                  · go_simp
                    refine hK.out _ _ ?_ (fun hH2 => ?_)
                    · exact HGt.out.b
                    clear hK K hHeld
                    have hHeld := (show Below w7.heap.size w7 _ from hH2)
                    clear hH2
                    try simp only [Act.put, List.getElem_toArray, List.getElem_cons_zero, List.setIfInBounds_toArray, List.set_cons_zero, List.set_cons_succ]
                    refine wpAnyH_take (i := 12) (v := ?_) rfl (by kernel_rfl) (by kernel_rfl) (by kernel_rfl) (fun _ _ _ h => h) (Or.inl ⟨by rfl, ?_⟩) (by assumption) ?_
                    rotate_left
                    · intro W0 hSw; have hSa : Below w7.heap.size w7 W0 := hSw; go_simp; all_goals (with_reducible rfl)
                    try simp only [Act.put, List.getElem_toArray, List.setIfInBounds_toArray]
                    refine wpAnyH_done (by kernel_rfl) ?_ _
                    go_wp2_with fail
                    go_meet
                    exact ⟨_, _, _, _, _, _, _, _, _, _, _, _, _, _, _, rfl, rfl, Lib.hid HGt.out.v, HE9, Lib.hid HGt.out.b, Lib.hid (ans_at HGt.out.a XY HXY.out)⟩
                  exact AllReadyH.nil
                exact AllReadyH.nil
              exact AllReadyH.nil
            exact AllReadyH.nil
          exact AllReadyH.nil
        case rest =>
        obtain ⟨g3, k3, S3, ql3, nl3, cl3, qh3, nh3, ch3, qz3, nz3, cz3, d3, q19, c19, rfl, rfl, HV3, HD3, hbn, HC19⟩ := hcut
        rename World => w9
        have HV8 := Lib.hid (HV8.out.keep hbn.out)
        have HMC := Lib.hid (HMC.out.keep hbn.out)
        have HB := Lib.hid (HB.out.trans (hbn.out.mono HB.out.size))
        clear hbn CD CT1 HMT HMr HRY
        cases fb with
        | false =>
          have HMq := Lib.hid (show (R5, Y5) = (M, eOver) from HMq.out.trans (if_neg (by decide)))
          obtain rfl : XY = ⟨#[45, 69, 82, 82, 32, 105, 110, 99, 114, 101, 109, 101, 110, 116, 32, 111, 114, 32, 100, 101, 99, 114, 101, 109, 101, 110, 116, 32, 119, 111, 117, 108, 100, 32, 111, 118, 101, 114, 102, 108, 111, 119, 13, 10]⟩ := same_bytes (by rw [HXY.out, (Prod.mk.inj HMq.out).2]; decide +kernel)
          have hc19 := HC19.out w9 (Below.refl _ _)
          clear HC19 HV3 HD3
          go_wp2_with fail
          go_ret
          exact ⟨rfl, HB.out⟩
        | true =>
          have HMq := Lib.hid (show (R5, Y5) = (putZ M T.data.toList sm, bulk (Lib.itoa sm)) from HMq.out.trans (if_pos rfl))
          obtain rfl : R5 = putZ M T.data.toList sm := (Prod.mk.inj HMq.out).1
          obtain rfl : Y5 = bulk (Lib.itoa sm) := (Prod.mk.inj HMq.out).2
          have HD3 := Lib.hid (show PV.d ⟨k3, S3, ql3, nl3, cl3, qh3, nh3, ch3, qz3, nz3, cz3, d3⟩ = zV (putZ M T.data.toList sm) from HD3.out)
          clear HMq
          obtain ⟨F3, hF3⟩ : ∃ F : ByteArray, F = ⟨(Lib.itoa sm).toArray⟩ := ⟨_, rfl⟩
          have hF3z : F3.size ≤ 20 := by rw [hF3]; exact text_len _ HSm.out.1 HSm.out.2
          have HF3 := Lib.hid (show F3.data.toList = Lib.itoa sm by rw [hF3])
          have CT3 := Lib.hid (fun W => (show Calls Tryd.prog 12 #[.int .i64 sm] W (fun e w' => e = .returned (.string F3) ∧ Below W.heap.size W w') by rw [hF3]; exact Ref01.text_any sm.natAbs sm W (Nat.le_refl _) HSm.out.1 HSm.out.2))
          clear hF3
          have HPu := Lib.hid (put_up T.data.toList sm HU.out)
          have HPi := Lib.hid (put_in T.data.toList HIn.out HSm.out)
          have HPl := Lib.hid (show (putZ M T.data.toList sm).length = M.length by rw [put_len _ _ HU.out, if_pos HTh.out])
          go_upto_region 20 with fail
          have C1 := Lib.hid (fun (W Y : World) (g : Nat) (hY : Below (W.alloc (.cells #[.string ⟨#[122, 115, 99, 111, 114, 101]⟩, .string ⟨#[107]⟩, .string T] 9)).heap.size (W.alloc (.cells #[.string ⟨#[122, 115, 99, 111, 114, 101]⟩, .string ⟨#[107]⟩, .string T] 9)) Y) (hgw : g = W.heap.size) (hW : Below w.heap.size w W) (hpv : PV.In W ⟨k3, S3, ql3, nl3, cl3, qh3, nh3, ch3, qz3, nz3, cz3, d3⟩) (hdv : PV.d ⟨k3, S3, ql3, nl3, cl3, qh3, nh3, ch3, qz3, nz3, cz3, d3⟩ = zV (putZ M T.data.toList sm)) => (show Calls Tryd.prog 11 #[.agg #[.int .u8 k3, .string S3, .slice ql3 nl3 cl3, .slice qh3 nh3 ch3, .slice qz3 nz3 cz3], .slice (some ⟨g, 0, none⟩) 3 3] Y (DoN (zV (putZ M T.data.toList sm)) (bulk (Lib.itoa sm)) W) from by subst hgw; exact don_to (got_row HU.out _ _) (on3 2 (by decide) ⟨#[122, 115, 99, 111, 114, 101]⟩ ⟨#[107]⟩ T (by decide) (by decide) (by decide) ⟨k3, S3, ql3, nl3, cl3, qh3, nh3, ch3, qz3, nz3, cz3, d3⟩ (putZ M T.data.toList sm) W Y hY hpv hdv (HG.out W hW) ⟨HPu.out, HPi.out, by have := H8.out; have := HPl.out; omega, Nat.le_refl 1⟩)))
          obtain ⟨-, -, ra0, ra1, ra2, ra3, ra4⟩ := HV3.out.room
          dsimp only at ra0 ra1 ra2 ra3 ra4
          have tx := HMC.out.c0
          go_wp2_with fail
          clear ra0 ra1 ra2 ra3 ra4
          with_reducible refine (C1.out w9 _ _ (Below.refl _ _) rfl HB.out HV3.out.pv HD3.out).mono ?_
          rintro e wa ⟨p4, vr4, rfl, hI, hd, hn, hA, hb⟩
          obtain ⟨k4, S4, ql4, nl4, cl4, qh4, nh4, ch4, qz4, nz4, cz4, d4⟩ := p4
          dsimp only [PV.agg]
          obtain ⟨qr4, cr4, rfl, hv4⟩ := ans_text hA NY HNY.out XY HXY.out
          have hbn := hb.trans ((Kit.below1 wa (.cells #[.int .u8 k4, .string S4, .slice ql4 nl4 cl4, .slice qh4 nh4 ch4, .slice qz4 nz4 cz4] 26)).mono hb.size)
          have HV8 := Lib.hid (HV8.out.keep hbn)
          have HV3 := Lib.hid (HV3.out.keep hbn)
          have HC19 := Lib.hid (fun W hW => HC19.out W (hbn.trans (Below.mono hW hbn.size)))
          have HB := Lib.hid (HB.out.trans (hbn.mono HB.out.size))
          have HV4 := Lib.hid (show VB _ wa.heap.size ⟨k4, S4, ql4, nl4, cl4, qh4, nh4, ch4, qz4, nz4, cz4, d4⟩ from VB.new hI)
          have HD4 := Lib.hid (show PV.d ⟨k4, S4, ql4, nl4, cl4, qh4, nh4, ch4, qz4, nz4, cz4, d4⟩ = _ from hd)
          have hbx := Kit.below1 wa (.cells #[.int .u8 k4, .string S4, .slice ql4 nl4 cl4, .slice qh4 nh4 ch4, .slice qz4 nz4 cz4] 26)
          have HC4 := Lib.hid (fun W hW => hv4 W (hbx.trans (Below.mono hW hbx.size)))
          clear hbx
          have HL4 := Lib.hid (show w9.heap.size ≤ wa.heap.size from Below.size hb)
          clear hI hd hn hA hb hbn hv4
          go_upto_region 21 with fail
          generalize hgg : wa.heap.size = g4 at HV4 HL4 ⊢
          clear hgg
          generalize wa.alloc (.cells #[.int .u8 k4, .string S4, .slice ql4 nl4 cl4, .slice qh4 nh4 ch4, .slice qz4 nz4 cz4] 26) = w10 at HV4 HV8 HV3 HC19 HB HC4 ⊢
          clear C1 HL4 tx HV4 HD4 HMC
          have CR := Lib.hid (rright k3 S3 ql3 nl3 cl3 qh3 nh3 ch3 qz3 nz3 cz3 d3 w10 HV3.out.pv)
          rw [show rightB d3 = true by rw [show d3 = zV (putZ M T.data.toList sm) from HD3.out]; exact right_of HPu.out] at CR
          obtain ⟨-, -, ra0, ra1, ra2, ra3, ra4⟩ := HV3.out.room
          dsimp only at ra0 ra1 ra2 ra3 ra4
          go_wp2_with fail
          clear ra0 ra1 ra2 ra3 ra4
          with_reducible refine CR.out.mono ?_
          rintro e w11 ⟨rfl, hb⟩
          have hbn := Lib.hid hb
          have HV8 := Lib.hid (HV8.out.keep hbn.out)
          have HV3 := Lib.hid (HV3.out.keep hbn.out)
          have HC19 := Lib.hid (fun W hW => HC19.out W (hbn.out.trans (Below.mono hW hbn.out.size)))
          have HC4 := Lib.hid (fun W hW => HC4.out W (hbn.out.trans (Below.mono hW hbn.out.size)))
          have HB := Lib.hid (HB.out.trans (hbn.out.mono HB.out.size))
          clear hb hbn CR
          have e38 : nz3 = nz8 := by
            have h3 := (pv_marks HV3.out.pv HD3.out).1
            have h8 := (pv_marks HV8.out.pv HD8.out).1
            dsimp only at h3 h8
            rw [h3, h8, HPl.out]
          have te : ((nz3 : Int) == (nz8 : Int)) = true := by rw [e38, beq_iff_eq]
          have te2 : (nz3 : Int) = (nz8 : Int) := by rw [e38]
          have hc19 := HC19.out
          have hc4 := HC4.out
          have hx3 := fun W (h : Below w11.heap.size w11 W) => (VB.room (p := ⟨k3, S3, ql3, nl3, cl3, qh3, nh3, ch3, qz3, nz3, cz3, d3⟩) (HV3.out.keep h)).c4
          have hx8 := fun W (h : Below w11.heap.size w11 W) => (VB.room (p := ⟨k8, S8, ql8, nl8, cl8, qh8, nh8, ch8, (some ⟨bm, offm, none⟩), nz8, cz8, d8⟩) (HV8.out.keep h)).c4
          have A1 := Lib.hid (fun W (h : Below w11.heap.size w11 W) => (show Calls Tryd.prog 12 #[.int .i64 sm] W (Plain w11 W (.string F3)) from (CT3.out W).mono (fun e w' hh => plain_of hh.1 hh.2 h)))
          have A2 := Lib.hid (fun W (h : Below w11.heap.size w11 W) => (show Calls Tryd.prog 13 #[.string F3] W (Said w11 W NY XY) from (rbulk F3 W (by omega)).mono (fun e w' hh => said_of (hh.of (by rw [HF3.out])) h NY HNY.out XY HXY.out)))
          clear HC19 HC4 HV3 HD3 HV8 HD8 CT3 HF1 HF3 HU HPu HPi HPl HNY HXY HFl H8 HIn HTh HSm HG
          dsimp only at hx3 hx8
          go_wp2_with fail
          refine wp_region_held_drew (S := fun W => Below w11.heap.size w11 W ∧ Below w11.heap.size w11 W) (by kernel_rfl) ?_ (fun hHeld => ?_)
          · exact ⟨(Below.refl _ _).drew, (Below.refl _ _).drew⟩
          refine wpAnyH_take (i := 0) (v := ?_) rfl (by kernel_rfl) (by kernel_rfl) (by kernel_rfl) (fun _ _ _ h => h) (Or.inl ⟨by rfl, ?_⟩) (by assumption) ?_
          rotate_left
          · intro W0 hSw; obtain ⟨hSa, hSb⟩ := hSw; go_simp; all_goals (with_reducible rfl)
          try simp only [Act.put, List.getElem_toArray, List.getElem_cons_zero, List.setIfInBounds_toArray, List.set_cons_zero, List.set_cons_succ]
          refine wpAnyH_take (i := 1) (v := ?_) rfl (by kernel_rfl) (by kernel_rfl) (by kernel_rfl) (fun _ _ _ h => h) (Or.inl ⟨by rfl, ?_⟩) (by assumption) ?_
          rotate_left
          · intro W0 hSw; obtain ⟨hSa, hSb⟩ := hSw; go_simp; all_goals (with_reducible rfl)
          try simp only [Act.put, List.getElem_toArray, List.getElem_cons_succ, List.getElem_cons_zero, List.setIfInBounds_toArray, List.set_cons_zero, List.set_cons_succ]
          refine wpAnyH_take (i := 2) (v := ?_) rfl (by kernel_rfl) (by kernel_rfl) (by kernel_rfl) (fun _ _ _ h => h) (Or.inl ⟨by rfl, ?_⟩) (by assumption) ?_
          rotate_left
          · intro W0 hSw; obtain ⟨hSa, hSb⟩ := hSw; go_simp; all_goals (with_reducible rfl)
          try simp only [Act.put, List.getElem_toArray, List.getElem_cons_succ, List.getElem_cons_zero, List.setIfInBounds_toArray, List.set_cons_zero, List.set_cons_succ]
          refine wpAnyH_take (i := 3) (v := ?_) rfl (by kernel_rfl) (by kernel_rfl) (by kernel_rfl) (fun _ _ _ h => h) (Or.inl ⟨by rfl, ?_⟩) (by assumption) ?_
          rotate_left
          · intro W0 hSw; obtain ⟨hSa, hSb⟩ := hSw; go_simp; all_goals (with_reducible rfl)
          try simp only [Act.put, List.getElem_toArray, List.getElem_cons_succ, List.getElem_cons_zero, List.setIfInBounds_toArray, List.set_cons_zero, List.set_cons_succ]
          refine wpAnyH_take (i := 4) (v := ?_) rfl (by kernel_rfl) (by kernel_rfl) (by kernel_rfl) (fun _ _ _ h => h) (Or.inl ⟨by rfl, ?_⟩) (by assumption) ?_
          rotate_left
          · intro W0 hSw; obtain ⟨hSa, hSb⟩ := hSw; go_simp; all_goals (with_reducible rfl)
          try simp only [Act.put, List.getElem_toArray, List.getElem_cons_succ, List.getElem_cons_zero, List.setIfInBounds_toArray, List.set_cons_zero, List.set_cons_succ]
          refine wpAnyH_take (i := 5) (v := ?_) rfl (by kernel_rfl) (by kernel_rfl) (by kernel_rfl) (fun _ _ _ h => h) (Or.inl ⟨by rfl, ?_⟩) (by assumption) ?_
          rotate_left
          · intro W0 hSw; obtain ⟨hSa, hSb⟩ := hSw; go_simp; all_goals (with_reducible rfl)
          try simp only [Act.put, List.getElem_toArray, List.getElem_cons_succ, List.getElem_cons_zero, List.setIfInBounds_toArray, List.set_cons_zero, List.set_cons_succ]
          refine wpAnyH_take (i := 6) (v := ?_) rfl (by kernel_rfl) (by kernel_rfl) (by kernel_rfl) (fun _ _ _ h => h) (Or.inl ⟨by rfl, ?_⟩) (by assumption) ?_
          rotate_left
          · intro W0 hSw; obtain ⟨hSa, hSb⟩ := hSw; go_simp; all_goals (with_reducible rfl)
          try simp only [Act.put, List.getElem_toArray, List.getElem_cons_succ, List.getElem_cons_zero, List.setIfInBounds_toArray, List.set_cons_zero, List.set_cons_succ]
          refine wpAnyH_take (i := 7) (v := ?_) rfl (by kernel_rfl) (by kernel_rfl) (by kernel_rfl) (fun _ _ _ h => h) (Or.inl ⟨by rfl, ?_⟩) (by assumption) ?_
          rotate_left
          · intro W0 hSw; obtain ⟨hSa, hSb⟩ := hSw; go_simp; all_goals (with_reducible rfl)
          try simp only [Act.put, List.getElem_toArray, List.getElem_cons_succ, List.getElem_cons_zero, List.setIfInBounds_toArray, List.set_cons_zero, List.set_cons_succ]
          refine wpAnyH_take (i := 8) (v := ?_) rfl (by kernel_rfl) (by kernel_rfl) (by kernel_rfl) (fun _ _ _ h => h) (Or.inl ⟨by rfl, ?_⟩) (by assumption) ?_
          rotate_left
          · intro W0 hSw; obtain ⟨hSa, hSb⟩ := hSw; go_simp; all_goals (with_reducible rfl)
          try simp only [Act.put, List.getElem_toArray, List.getElem_cons_succ, List.getElem_cons_zero, List.setIfInBounds_toArray, List.set_cons_zero, List.set_cons_succ]
          refine wpAnyH_take (i := 9) (v := ?_) rfl (by kernel_rfl) (by kernel_rfl) (by kernel_rfl) (fun _ _ _ h => h) (Or.inl ⟨by rfl, ?_⟩) (by assumption) ?_
          rotate_left
          · intro W0 hSw; obtain ⟨hSa, hSb⟩ := hSw; go_simp; all_goals (with_reducible rfl)
          try simp only [Act.put, List.getElem_toArray, List.getElem_cons_succ, List.getElem_cons_zero, List.setIfInBounds_toArray, List.set_cons_zero, List.set_cons_succ]
          refine wpAnyH_take (i := 10) (v := ?_) rfl (by kernel_rfl) (by kernel_rfl) (by kernel_rfl) (fun _ _ _ h => h) (Or.inl ⟨by rfl, ?_⟩) (by assumption) ?_
          rotate_left
          · intro W0 hSw; obtain ⟨hSa, hSb⟩ := hSw; go_simp; all_goals (with_reducible rfl)
          try simp only [Act.put, List.getElem_toArray, List.getElem_cons_succ, List.getElem_cons_zero, List.setIfInBounds_toArray, List.set_cons_zero, List.set_cons_succ]
          refine wpAnyH_take (i := 11) (v := ?_) rfl (by kernel_rfl) (by kernel_rfl) (by kernel_rfl) (fun _ _ _ h => h) (Or.inl ⟨by rfl, ?_⟩) (by assumption) ?_
          rotate_left
          · intro W0 hSw; obtain ⟨hSa, hSb⟩ := hSw; go_simp; all_goals (with_reducible rfl)
          try simp only [Act.put, List.getElem_toArray, List.getElem_cons_succ, List.getElem_cons_zero, List.setIfInBounds_toArray, List.set_cons_zero, List.set_cons_succ]
          refine wpAnyH_take (i := 12) (v := ?_) rfl (by kernel_rfl) (by kernel_rfl) (by kernel_rfl) (fun _ _ _ h => h) (Or.inl ⟨by rfl, ?_⟩) (by assumption) ?_
          rotate_left
          · intro W0 hSw; obtain ⟨hSa, hSb⟩ := hSw; go_simp; all_goals (with_reducible rfl)
          try simp only [Act.put, List.getElem_toArray, List.getElem_cons_succ, List.getElem_cons_zero, List.setIfInBounds_toArray, List.set_cons_zero, List.set_cons_succ]
          refine wpAnyH_take (i := 13) (v := ?_) rfl (by kernel_rfl) (by kernel_rfl) (by kernel_rfl) (fun _ _ _ h => h) (Or.inl ⟨by rfl, ?_⟩) (by assumption) ?_
          rotate_left
          · intro W0 hSw; obtain ⟨hSa, hSb⟩ := hSw; go_simp; all_goals (with_reducible rfl)
          try simp only [Act.put, List.getElem_toArray, List.getElem_cons_succ, List.getElem_cons_zero, List.setIfInBounds_toArray, List.set_cons_zero, List.set_cons_succ]
          refine wpAnyH_take (i := 14) (v := ?_) rfl (by kernel_rfl) (by kernel_rfl) (by kernel_rfl) (fun _ _ _ h => h) (Or.inl ⟨by rfl, ?_⟩) (by assumption) ?_
          rotate_left
          · intro W0 hSw; obtain ⟨hSa, hSb⟩ := hSw; go_simp; all_goals (with_reducible rfl)
          try simp only [Act.put, List.getElem_toArray, List.getElem_cons_succ, List.getElem_cons_zero, List.setIfInBounds_toArray, List.set_cons_zero, List.set_cons_succ]
          refine wpAnyH_take (i := 15) (v := ?_) rfl (by kernel_rfl) (by kernel_rfl) (by kernel_rfl) (fun _ _ _ h => h) (Or.inl ⟨by rfl, ?_⟩) (by assumption) ?_
          rotate_left
          · intro W0 hSw; obtain ⟨hSa, hSb⟩ := hSw; go_simp; all_goals (with_reducible rfl)
          try simp only [Act.put, List.getElem_toArray, List.getElem_cons_succ, List.getElem_cons_zero, List.setIfInBounds_toArray, List.set_cons_zero, List.set_cons_succ]
          refine wpAnyH_take (i := 16) (v := ?_) rfl (by kernel_rfl) (by kernel_rfl) (by kernel_rfl) (fun _ _ _ h => h) (Or.inl ⟨by rfl, ?_⟩) (by assumption) ?_
          rotate_left
          · intro W0 hSw; obtain ⟨hSa, hSb⟩ := hSw; go_simp; all_goals (with_reducible rfl)
          try simp only [Act.put, List.getElem_toArray, List.getElem_cons_succ, List.getElem_cons_zero, List.setIfInBounds_toArray, List.set_cons_zero, List.set_cons_succ]
          refine wpAnyH_ready (rs := [17]) (by kernel_rfl) (by simp) ?_
          refine AllReadyH.cons rfl (fun K hK => ?_) AllReadyH.nil
          go_simp
          go_wp2_with (go_at_call 12; (refine (A1.out _ hHeld.1).mono ?_); rintro e wA0 ⟨rfl, bwA0, ywA0, zwA0⟩)
          have hC := hHeld.2.trans (ywA0.mono hHeld.2.size)
          refine hK.out _ _ ?_ (fun hHeld2 => ?_)
          · exact ⟨bwA0, hC⟩
          clear hK K hHeld hHeld2
          have hHeld : Below w11.heap.size w11 wA0 ∧ Below wA0.heap.size wA0 wA0 := ⟨bwA0, zwA0⟩
          refine held_mono (S' := fun W => Below w11.heap.size w11 W ∧ Below wA0.heap.size wA0 W) (fun W hW => ⟨hW.1, hC.trans (hW.2.mono hC.size)⟩) _ _ _ _ ?_
          clear hC
          refine wpAnyH_ready (rs := [18]) (by kernel_rfl) (by simp) ?_
          refine AllReadyH.cons rfl (fun K hK => ?_) AllReadyH.nil
          go_simp
          go_wp2_with (go_at_call 13; (refine (A2.out _ hHeld.1).mono ?_); rintro e wA1 ⟨pwA1, cwA1, rfl, vwA1, bwA1, ywA1, zwA1⟩)
          have hC := hHeld.2.trans (ywA1.mono hHeld.2.size)
          refine hK.out _ _ ?_ (fun hHeld2 => ?_)
          · exact ⟨bwA1, hC⟩
          clear hK K hHeld hHeld2
          have hHeld : Below w11.heap.size w11 wA1 ∧ Below wA1.heap.size wA1 wA1 := ⟨bwA1, zwA1⟩
          refine held_mono (S' := fun W => Below w11.heap.size w11 W ∧ Below wA1.heap.size wA1 W) (fun W hW => ⟨hW.1, hC.trans (hW.2.mono hC.size)⟩) _ _ _ _ ?_
          clear hC
          refine wpAnyH_take (i := 19) (v := ?_) rfl (by kernel_rfl) (by kernel_rfl) (by kernel_rfl) (fun _ _ _ h => h) (Or.inl ⟨by rfl, ?_⟩) (by assumption) ?_
          rotate_left
          · intro W0 hSw; obtain ⟨hSa, hSb⟩ := hSw; go_simp; all_goals (with_reducible rfl)
          try simp only [Act.put, List.getElem_toArray, List.getElem_cons_succ, List.getElem_cons_zero, List.setIfInBounds_toArray, List.set_cons_zero, List.set_cons_succ]
          refine wpAnyH_take (i := 20) (v := ?_) rfl (by kernel_rfl) (by kernel_rfl) (by kernel_rfl) (fun _ _ _ h => h) (Or.inl ⟨by rfl, ?_⟩) (by assumption) ?_
          rotate_left
          · intro W0 hSw; obtain ⟨hSa, hSb⟩ := hSw; go_simp; all_goals (with_reducible rfl)
          try simp only [Act.put, List.getElem_toArray, List.getElem_cons_succ, List.getElem_cons_zero, List.setIfInBounds_toArray, List.set_cons_zero, List.set_cons_succ]
          refine wpAnyH_take (i := 21) (v := ?_) rfl (by kernel_rfl) (by kernel_rfl) (by kernel_rfl) (fun _ _ _ h => h) (Or.inl ⟨by rfl, ?_⟩) (by assumption) ?_
          rotate_left
          · intro W0 hSw; obtain ⟨hSa, hSb⟩ := hSw; go_simp; all_goals (with_reducible rfl)
          try simp only [Act.put, List.getElem_toArray, List.getElem_cons_succ, List.getElem_cons_zero, List.setIfInBounds_toArray, List.set_cons_zero, List.set_cons_succ]
          refine wpAnyH_take (i := 22) (v := ?_) rfl (by kernel_rfl) (by kernel_rfl) (by kernel_rfl) (fun _ _ _ h => h) (Or.inl ⟨by rfl, ?_⟩) (by assumption) ?_
          rotate_left
          · intro W0 hSw; obtain ⟨hSa, hSb⟩ := hSw; go_simp; all_goals (with_reducible rfl)
          try simp only [Act.put, List.getElem_toArray, List.getElem_cons_succ, List.getElem_cons_zero, List.setIfInBounds_toArray, List.set_cons_zero, List.set_cons_succ]
          refine wpAnyH_take (i := 23) (v := ?_) rfl (by kernel_rfl) (by kernel_rfl) (by kernel_rfl) (fun _ _ _ h => h) (Or.inl ⟨by rfl, ?_⟩) (by assumption) ?_
          rotate_left
          · intro W0 hSw; obtain ⟨hSa, hSb⟩ := hSw; go_simp; all_goals (with_reducible rfl)
          try simp only [Act.put, List.getElem_toArray, List.getElem_cons_succ, List.getElem_cons_zero, List.setIfInBounds_toArray, List.set_cons_zero, List.set_cons_succ]
          refine wpAnyH_take (i := 24) (v := ?_) rfl (by kernel_rfl) (by kernel_rfl) (by kernel_rfl) (fun _ _ _ h => h) (Or.inl ⟨by rfl, ?_⟩) (by assumption) ?_
          rotate_left
          · intro W0 hSw; obtain ⟨hSa, hSb⟩ := hSw; go_simp; all_goals (with_reducible rfl)
          try simp only [Act.put, List.getElem_toArray, List.getElem_cons_succ, List.getElem_cons_zero, List.setIfInBounds_toArray, List.set_cons_zero, List.set_cons_succ]
          refine wpAnyH_take (i := 25) (v := ?_) rfl (by kernel_rfl) (by kernel_rfl) (by kernel_rfl) (fun _ _ _ h => h) (Or.inl ⟨by rfl, ?_⟩) (by assumption) ?_
          rotate_left
          · intro W0 hSw; obtain ⟨hSa, hSb⟩ := hSw; go_simp; all_goals (with_reducible rfl)
          try simp only [Act.put, List.getElem_toArray, List.getElem_cons_succ, List.getElem_cons_zero, List.setIfInBounds_toArray, List.set_cons_zero, List.set_cons_succ]
          refine wpAnyH_take (i := 26) (v := ?_) rfl (by kernel_rfl) (by kernel_rfl) (by kernel_rfl) (fun _ _ _ h => h) (Or.inl ⟨by rfl, ?_⟩) (by assumption) ?_
          rotate_left
          · intro W0 hSw; obtain ⟨hSa, hSb⟩ := hSw; go_simp; all_goals (with_reducible rfl)
          try simp only [Act.put, List.getElem_toArray, List.getElem_cons_succ, List.getElem_cons_zero, List.setIfInBounds_toArray, List.set_cons_zero, List.set_cons_succ]
          refine wpAnyH_take (i := 27) (v := ?_) rfl (by kernel_rfl) (by kernel_rfl) (by kernel_rfl) (fun _ _ _ h => h) (Or.inl ⟨by rfl, ?_⟩) (by assumption) ?_
          rotate_left
          · intro W0 hSw; obtain ⟨hSa, hSb⟩ := hSw; go_simp; all_goals (with_reducible rfl)
          try simp only [Act.put, List.getElem_toArray, List.getElem_cons_succ, List.getElem_cons_zero, List.setIfInBounds_toArray, List.set_cons_zero, List.set_cons_succ]
          refine wpAnyH_take (i := 28) (v := ?_) rfl (by kernel_rfl) (by kernel_rfl) (by kernel_rfl) (fun _ _ _ h => h) (Or.inl ⟨by rfl, ?_⟩) (by assumption) ?_
          rotate_left
          · intro W0 hSw; obtain ⟨hSa, hSb⟩ := hSw; go_simp; all_goals (with_reducible rfl)
          try simp only [Act.put, List.getElem_toArray, List.getElem_cons_succ, List.getElem_cons_zero, List.setIfInBounds_toArray, List.set_cons_zero, List.set_cons_succ]
          refine wpAnyH_take (i := 29) (v := ?_) rfl (by kernel_rfl) (by kernel_rfl) (by kernel_rfl) (fun _ _ _ h => h) (Or.inl ⟨by rfl, ?_⟩) (by assumption) ?_
          rotate_left
          · intro W0 hSw; obtain ⟨hSa, hSb⟩ := hSw; go_simp; all_goals (with_reducible rfl)
          try simp only [Act.put, List.getElem_toArray, List.getElem_cons_succ, List.getElem_cons_zero, List.setIfInBounds_toArray, List.set_cons_zero, List.set_cons_succ]
          refine wpAnyH_done (by kernel_rfl) ?_ _
          go_wp2_with fail
          go_ret
          exact ⟨rfl, HB.out.trans (hHeld.1.mono HB.out.size)⟩


end Go.Proofs.YtodpocciimbjbaaDoor.sortedRanges
