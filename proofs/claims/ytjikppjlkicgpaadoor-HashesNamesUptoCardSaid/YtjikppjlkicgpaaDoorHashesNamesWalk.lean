/-
  HashesNames: all pairs of a hash are told, names rising, each with what it has; a number of a name is made more; a pair that is no number is none for it.
-/
import Derived.Test.YtjikppjlkicgpaaDoorHasLaws
import Derived.Test.YtjikppjlkicgpaaDoorHasFits
import Derived.Test.YtjikppjlkicgpaaDoorRefVals
import Derived.Test.YtjikppjlkicgpaaDoorRefTexts
import Derived.Test.YtjikppjlkicgpaaDoorReplyLine
import Derived.Deep.QuietTactic
import Derived.Deep.DeepCutAuto
import Derived.BigQuiet
import Derived.StillTailTactics
import Derived.Deep.RegionLaw
namespace Go.Proofs.YtjikppjlkicgpaaDoor.hashesNames
open Go.RowKit Kit StrT RowG BOrd ValT StoT ReplyT ReplyMath ValM BytesIn DoT Low LstT HasT NumL NumW NumMath HasM SaidT RefR DoV LawK HasL RefV ReplyM
set_option linter.unusedVariables false
set_option maxRecDepth 100000
-- ASKS: NumL.Gd
-- UPTO


theorem fit_kind (d : V) : (fitV d).kind ≤ 255 := by
  unfold fitV v0
  repeat' split
  all_goals simp
theorem tmod_in (n : Int) : -2305843009213693952 < n.tmod 2305843009213693952 ∧ n.tmod 2305843009213693952 < 2305843009213693952 := ⟨Int.lt_tmod_of_pos n (by decide), Int.tmod_lt_of_pos n (by decide)⟩
theorem set_row (H : List Pr) (k v : List UInt8) : rowD 0 H [k, v] = (setP H k v, int (newN (getP H k))) := rfl
theorem more_row {H : List Pr} (h : Up H) (k f : List UInt8) (x y : Int) (hf : f = Lib.itoa y) (x0 : -9223372036854775808 ≤ x) (x1 : x ≤ 9223372036854775807) (y0 : -9223372036854775808 ≤ y) (y1 : y ≤ 9223372036854775807) (z0 : -9223372036854775808 ≤ x + y) (z1 : x + y ≤ 9223372036854775807) : rowD 5 (setP H k (Lib.itoa x)) [k, f] = (setP H k (Lib.itoa (x + y)), int (x + y)) := by
  subst hf
  show byR (setP H k (Lib.itoa x)) k ((getP (setP H k (Lib.itoa x)) k).getD [48]) (Lib.itoa y) = _
  rw [get_set_same]
  show byR (setP H k (Lib.itoa x)) k (Lib.itoa x) (Lib.itoa y) = _
  obtain ⟨a1, a2⟩ := pB_itoa x0 x1
  obtain ⟨b1, b2⟩ := pB_itoa y0 y1
  unfold byR
  rw [if_pos ⟨b1, a1⟩, a2, b2, if_pos (add_yes ⟨z0, z1⟩).2, (add_yes ⟨z0, z1⟩).1, set_again h]
theorem got_row (H : List Pr) (k u : List UInt8) : rowD 1 (setP H k u) [k] = (setP H k u, bulk u) := by
  show (setP H k u, gotR (getP (setP H k u) k)) = _
  rw [get_set_same]
  rfl
theorem odd_row (H : List Pr) (k : List UInt8) : rowD 5 (setP H k [120]) [k, [49]] = (setP H k [120], eInt) := by
  show byR (setP H k [120]) k ((getP (setP H k [120]) k).getD [48]) [49] = _
  rw [get_set_same]
  unfold byR
  exact if_neg (fun h => absurd h.2 (by decide +kernel))
theorem set_vals {H : List Pr} {k u : List UInt8} {m : Nat} (hH : ∀ x ∈ H, x.val.length ≤ m) (hu : u.length ≤ m) : ∀ x ∈ setP H k u, x.val.length ≤ m := by
  intro x hx
  rcases set_mem hx with rfl | hx
  · exact hu
  · exact hH x hx
theorem set_len9 {H : List Pr} (h : Up H) (h8 : H.length ≤ 8) (k u : List UInt8) : (setP H k u).length ≤ 9 := by
  have h1 := set_len k u h
  split at h1 <;> omega
theorem sum_in {z : Int} (h : -9223372036854775808 ≤ z ∧ z ≤ 9223372036854775807) : IntKind.i64.wrap z = z ∧ wrap64 z = z := by
  refine ⟨IntWalk.i64_in _ h, ?_⟩
  unfold wrap64
  omega
theorem all_take {H : List Pr} {k : Nat} (h : k < H.length) : allP (H.take (k + 1)) = allP (H.take k) ++ [H[k].name, H[k].val] := by
  unfold allP
  rw [List.take_succ_eq_append_getElem h, List.map_append, List.flatten_append]
  rfl

set_option maxHeartbeats 16000000 in
theorem walk (q : Option Addr) (L : List Pr) (n c : Nat) (n0 n1 : Int) (w : World) (hL : L.length = n) (h : Rs prE w q L) (hz : ∀ x ∈ L, x.name.length ≤ 140737488351232 ∧ x.val.length ≤ 140737488351232) (hcap : n ≤ c) (hcm : c ≤ 9223372036854775807) (hnil : q = none → c = 0) (hup : (allP L).flatten.length + L.length ≤ 1048576) (a0 : -9223372036854775808 ≤ n0) (a1 : n0 ≤ 9223372036854775807) (b0 : -9223372036854775808 ≤ n1) (b1 : n1 ≤ 9223372036854775807) (hg : Gd w) :
    Calls Tryd.prog 5 #[.slice q n c, .agg #[.int .i64 n0, .int .i64 n1]] w fun e w' => e = .returned (.bool true) ∧ Below w.heap.size w w' := by
  have HG := Lib.hid (fun W (h : Below w.heap.size w W) => hg.keep h)
  have C0 := Lib.hid (fun W (h : Below w.heap.size w W) => shown_any W (hg.keep h))
  have CFi := Lib.hid (fun W (hW : Below w.heap.size w W) => rfit 3 ⟨#[]⟩ none 0 0 q n c none 0 0 ⟨3, [], [], L, []⟩ W ⟨rfl, by simp, rfl, Rs.nil _ _ _, h.keep hW, Rs.nil _ _ _, rfl, hL, rfl, by simp, hcap, by simp, by simp, hcm, by simp, fun _ => rfl, hnil, fun _ => rfl⟩ (by decide))
  obtain ⟨H, hH, hHu, hH8, hHl⟩ := fit_pairs L (by omega)
  have HH := Lib.hid hH
  have HU := Lib.hid hHu
  have H8 := Lib.hid hH8
  have HVv := Lib.hid (show ∀ x ∈ H, x.val.length ≤ 1048576 from fun x hx => Nat.le_trans (val_le hx) hHl)
  have HFl := Lib.hid hHl
  obtain ⟨x, hx⟩ : ∃ x, x = n0.tmod 2305843009213693952 := ⟨_, rfl⟩
  obtain ⟨y, hy⟩ : ∃ y, y = n1.tmod 2305843009213693952 := ⟨_, rfl⟩
  have hxb : -2305843009213693952 < x ∧ x < 2305843009213693952 := by rw [hx]; exact tmod_in n0
  have hyb : -2305843009213693952 < y ∧ y < 2305843009213693952 := by rw [hy]; exact tmod_in n1
  obtain ⟨F1, hF1⟩ : ∃ F : ByteArray, F = ⟨(Lib.itoa (x)).toArray⟩ := ⟨_, rfl⟩
  have hF1z : F1.size ≤ 20 := by rw [hF1]; exact text_len _ (by omega) (by omega)
  have HF1 := Lib.hid (show F1.data.toList = Lib.itoa (x) by rw [hF1])
  have CT1 := Lib.hid (fun W => (show Calls Tryd.prog 15 #[.int .i64 (x)] W (fun e w' => e = .returned (.string F1) ∧ Below W.heap.size W w') by rw [hF1]; exact Ref01.text_any (x).natAbs (x) W (Nat.le_refl _) (by omega) (by omega)))
  clear hF1
  obtain ⟨F2, hF2⟩ : ∃ F : ByteArray, F = ⟨(Lib.itoa (y)).toArray⟩ := ⟨_, rfl⟩
  have hF2z : F2.size ≤ 20 := by rw [hF2]; exact text_len _ (by omega) (by omega)
  have HF2 := Lib.hid (show F2.data.toList = Lib.itoa (y) by rw [hF2])
  have CT2 := Lib.hid (fun W => (show Calls Tryd.prog 15 #[.int .i64 (y)] W (fun e w' => e = .returned (.string F2) ∧ Below W.heap.size W w') by rw [hF2]; exact Ref01.text_any (y).natAbs (y) W (Nat.le_refl _) (by omega) (by omega)))
  clear hF2
  obtain ⟨F3, hF3⟩ : ∃ F : ByteArray, F = ⟨(Lib.itoa (x + y)).toArray⟩ := ⟨_, rfl⟩
  have hF3z : F3.size ≤ 20 := by rw [hF3]; exact text_len _ (by omega) (by omega)
  have HF3 := Lib.hid (show F3.data.toList = Lib.itoa (x + y) by rw [hF3])
  have CT3 := Lib.hid (fun W => (show Calls Tryd.prog 15 #[.int .i64 (x + y)] W (fun e w' => e = .returned (.string F3) ∧ Below W.heap.size W w') by rw [hF3]; exact Ref01.text_any (x + y).natAbs (x + y) W (Nat.le_refl _) (by omega) (by omega)))
  clear hF3
  have HX := Lib.hid (And.intro hxb hyb)
  have HUx := Lib.hid (set_up [110] (Lib.itoa x) hHu)
  have HUy := Lib.hid (set_up [110] (Lib.itoa (x + y)) hHu)
  have HUo := Lib.hid (set_up [110] [120] hHu)
  have HLx := Lib.hid (set_len9 hHu hH8 [110] (Lib.itoa x))
  have HLo := Lib.hid (set_len9 hHu hH8 [110] [120])
  have HVx := Lib.hid (set_vals (k := [110]) (u := Lib.itoa x) (m := 1048576) HVv.out (Nat.le_trans (itoa_len x (by omega) (by omega)) (by decide)))
  have HVy := Lib.hid (set_vals (k := [110]) (u := Lib.itoa (x + y)) (m := 1048576) HVv.out (Nat.le_trans (itoa_len (x + y) (by omega) (by omega)) (by decide)))
  have HVo := Lib.hid (set_vals (k := [110]) (u := [120]) (m := 1048576) HVv.out (by decide))
  have HMr := Lib.hid (fun (f : List UInt8) (hf : f = Lib.itoa y) => more_row hHu [110] f x y hf (by omega) (by omega) (by omega) (by omega) (by omega) (by omega))
  obtain ⟨NA, HNA⟩ : ∃ NR, Hid ((texts (allP H)).length = NR) := ⟨_, Lib.hid rfl⟩
  obtain ⟨XA, HXA⟩ : ∃ XR : ByteArray, Hid (XR.data.toList = texts (allP H)) := ⟨⟨(texts (allP H)).toArray⟩, Lib.hid rfl⟩
  obtain ⟨N0, HN0⟩ : ∃ NR, Hid ((int (newN (getP H [110]))).length = NR) := ⟨_, Lib.hid rfl⟩
  obtain ⟨X0, HX0⟩ : ∃ XR : ByteArray, Hid (XR.data.toList = int (newN (getP H [110]))) := ⟨⟨(int (newN (getP H [110]))).toArray⟩, Lib.hid rfl⟩
  obtain ⟨NS, HNS⟩ : ∃ NR, Hid ((int (x + y)).length = NR) := ⟨_, Lib.hid rfl⟩
  obtain ⟨XS, HXS⟩ : ∃ XR : ByteArray, Hid (XR.data.toList = int (x + y)) := ⟨⟨(int (x + y)).toArray⟩, Lib.hid rfl⟩
  obtain ⟨NB, HNB⟩ : ∃ NR, Hid ((bulk (Lib.itoa (x + y))).length = NR) := ⟨_, Lib.hid rfl⟩
  obtain ⟨XB, HXB⟩ : ∃ XR : ByteArray, Hid (XR.data.toList = bulk (Lib.itoa (x + y))) := ⟨⟨(bulk (Lib.itoa (x + y))).toArray⟩, Lib.hid rfl⟩
  have HBx := Lib.hid (Kit.below1 w (.cells #[.int .i64 n0, .int .i64 n1] 42))
  have HXc := Lib.hid (fun W (hW : Below (w.alloc (.cells #[.int .i64 n0, .int .i64 n1] 42)).heap.size (w.alloc (.cells #[.int .i64 n0, .int .i64 n1] 42)) W) => (show W.cell? ⟨w.heap.size, 0, none⟩ = some (.int .i64 n0) ∧ W.cell? ⟨w.heap.size, 1, none⟩ = some (.int .i64 n1) from
    ⟨(hW.cell (p := ⟨w.heap.size, 0, none⟩) (by simp)).trans (by simp [World.cell?_alloc_mark]), (hW.cell (p := ⟨w.heap.size, 1, none⟩) (by simp)).trans (by simp [World.cell?_alloc_mark])⟩))
  clear h hz hcm hnil hup hg hL hH hHu hHl hH8 hxb hyb
  go_enter Tryd.func5, Tryd.ntmps5
  go_upto_region 1 with fail
  generalize hgb : w.heap.size = gb at HXc ⊢
  generalize w.alloc (.cells #[.int .i64 n0, .int .i64 n1] 42) = w0 at HBx HXc ⊢
  subst hgb
  go_wp2_with fail
  with_reducible refine (C0.out w0 HBx.out).mono ?_
  rintro e w1 ⟨rfl, hb1⟩
  have HB := Lib.hid (HBx.out.trans (hb1.mono HBx.out.size))
  have HXc := Lib.hid (fun W hW => HXc.out W (hb1.trans (Below.mono hW hb1.size)))
  clear hb1 HBx C0
  go_wp2_with fail
  with_reducible refine (CFi.out w1 HB.out).mono ?_
  rintro e w2 ⟨v, rfl, hA, hb⟩
  obtain ⟨p8, rfl, hI, hd, -, -⟩ := pv_of hA (fit_kind _) (fit_len _).1 (fit_len _).2.1 (fit_len _).2.2
  obtain ⟨k8, S8, ql8, nl8, cl8, qh8, nh8, ch8, qz8, nz8, cz8, d8⟩ := p8
  dsimp only [PV.agg]
  have hd : d8 = hashV H := Eq.trans hd HH.out
  have hn : True := trivial
  have hbn := hb.trans ((Kit.below1 w2 (.cells #[.int .u8 k8, .string S8, .slice ql8 nl8 cl8, .slice qh8 nh8 ch8, .slice qz8 nz8 cz8] 26)).mono hb.size)
  have HXc := Lib.hid (fun W hW => HXc.out W (hbn.trans (Below.mono hW hbn.size)))
  have HB := Lib.hid (HB.out.trans (hbn.mono HB.out.size))
  have HV8 := Lib.hid (show VB _ w2.heap.size ⟨k8, S8, ql8, nl8, cl8, qh8, nh8, ch8, qz8, nz8, cz8, d8⟩ from VB.new hI)
  have HD8 := Lib.hid (show PV.d ⟨k8, S8, ql8, nl8, cl8, qh8, nh8, ch8, qz8, nz8, cz8, d8⟩ = _ from hd)
  have HL8 := Lib.hid (show w1.heap.size ≤ w2.heap.size from Below.size hb)
  clear hI hd hn hA hb hbn
  go_upto_region 3 with fail
  generalize hgg : w2.heap.size = g8 at HV8 HL8 ⊢
  clear hgg
  generalize w2.alloc (.cells #[.int .u8 k8, .string S8, .slice ql8 nl8 cl8, .slice qh8 nh8 ch8, .slice qz8 nz8 cz8] 26) = w3 at HV8 HXc HB ⊢
  clear CFi HL8 HH
  have HA0 := Lib.hid (ownR_new strE w3.heap.size w3 w3.heap.size rfl (Nat.le_refl _))
  have HBz := Lib.hid (Kit.below1 w3 (.cells #[] 9))
  obtain ⟨e8, -, HP8⟩ := pv_prs HV8.out.pv HD8.out
  dsimp only at e8 HP8
  have HPs := Lib.hid HP8
  have HE8 := Lib.hid e8
  have hn8 : nh8 ≤ 8 := by rw [e8]; exact H8.out
  have hn8i : (nh8 : Int) ≤ 8 := by omega
  have HAt := Lib.hid (fun k (hk : k < nh8) => all_take (H := H) (k := k) (by rw [← HE8.out]; exact hk))
  clear e8 HP8
  go_wp2_with fail
  go_loopw [7, 8] (fun v i wr => ∃ j : Nat, j ≤ nh8 ∧ i = .int .i64 (j : Int) ∧ Hid (OwnR strE w3.heap.size wr v (allP (H.take j))) ∧ Hid (Below w3.heap.size w3 wr)) (fun _ i _ => nh8 - (intOf i).toNat)
  case atStart => exact ⟨0, Nat.zero_le _, rfl, HA0, HBz⟩
  case round =>
    clear HBz HA0
    obtain ⟨j, hj, rfl, HO, HBz⟩ := hrel
    have HB0 := HB
    have HV80 := HV8
    have HV8 := Lib.hid (HV8.out.keep HBz.out)
    obtain ⟨-, -, ra0, ra1, ra2, ra3, ra4⟩ := HV8.out.room
    dsimp only at ra0 ra1 ra2 ra3 ra4
    by_cases hlt : j < nh8
    · have t1 : decide ((j : Int) < (nh8 : Int)) = true := decide_eq_true (by omega)
      have hx0 : (0 : Int) ≤ (j : Int) := by omega
      have hxn : (j : Int) < (nh8 : Int) := by omega
      have hxH : j < H.length := by rw [← HE8.out]; exact hlt
      obtain ⟨b, off, rfl, hbl, hc0, hc1⟩ := pr_at (HPs.out.keep HBz.out) j hxH
      obtain ⟨T, hT, hT2⟩ := str_of (H[j]'hxH).name
      obtain ⟨V, hV, hV2⟩ := str_of (H[j]'hxH).val
      rw [hT2] at hc0
      rw [hV2] at hc1
      have HTk := Lib.hid (show allP (H.take (j + 1)) = allP (H.take j) ++ [T.data.toList, V.data.toList] by rw [HAt.out j hlt, hT, hV])
      have HLk := Lib.hid (show (allP (H.take j)).length ≤ 4096 by rw [all_len, List.length_take]; have := H8.out; omega)
      clear hT hT2 hV hV2 hbl hxH
      go_wp2_with fail
      have HB2 := Lib.hid (show Below w3.heap.size w3 ((wr.alloc (.cells #[.string T, .string V] 9)).drew) from (HBz.out.alloc HBz.out.size _).drew)
      have HO2 := Lib.hid (show OwnR strE w3.heap.size ((wr.alloc (.cells #[.string T, .string V] 9)).drew) u7 (allP (H.take j)) from HO.out.keep (Kit.below1 wr _).drew)
      have HR2 := Lib.hid (show Rs strE ((wr.alloc (.cells #[.string T, .string V] 9)).drew) (some ⟨wr.heap.size, 0, none⟩) [T.data.toList, V.data.toList] from rs_ss.2 ((ss2_new wr T V).keep (Below.refl _ _).drew))
      go_region_law (refine step_append_rs strE (w0 := w3) rfl (.tmp 35) (.tmp 48) rfl u7 (allP (H.take j)) rfl HO2.out HB2.out wr.heap.size 0 [T.data.toList, V.data.toList] 2 2 rfl rfl HR2.out (by have := HLk.out; omega) _ HTk.out ?_; intro v1 wy ho1 hb1)
      all_goals
        have HO1 := Lib.hid ho1
        have HB1 := Lib.hid hb1
        clear ho1 hb1
        go_wp2_with fail
        go_roundw
        case rel => exact ⟨j + 1, by omega, by go_num, HO1, HB1⟩
        case measure => simp [intOf]; omega
    · obtain rfl : nh8 = j := by omega
      have t1 : decide ((nh8 : Int) < (nh8 : Int)) = false := decide_eq_false (by omega)
      have hAk : H.take nh8 = H := List.take_of_length_le (by rw [← HE8.out]; exact Nat.le_refl _)
      rw [hAk] at HO
      obtain ⟨q7, c7, rfl, hS, -, h5, h6, h7⟩ := OwnR.ans HO.out
      obtain ⟨m7, hm7⟩ : ∃ m, m = (allP H).length := ⟨_, rfl⟩
      rw [← hm7] at h5 ⊢
      have HRt := Lib.hid (show SR wr q7 m7 c7 (allP H) from ⟨hm7.symm, h5, h6, h7, rs_ss.1 hS⟩)
      have hm16 : m7 ≤ 16 := by rw [hm7, all_len]; have := H8.out; omega
      have HB := Lib.hid (HB0.out.trans (HBz.out.mono HB0.out.size))
      have HXc := Lib.hid (fun W hW => HXc.out W (HBz.out.trans (Below.mono hW HBz.out.size)))
      clear hS h5 h6 h7 hm7 hAk HO HB0 HV80 HPs HAt HE8 HBz hlt t1 hj hn8 hn8i ra0 ra1 ra2 ra3 ra4
      have C1 := Lib.hid (fun (W Y : World) (g : Nat) (hY : Below (W.alloc (.cells #[.string ⟨#[104, 103, 101, 116, 97, 108, 108]⟩, .string ⟨#[107]⟩] 9)).heap.size (W.alloc (.cells #[.string ⟨#[104, 103, 101, 116, 97, 108, 108]⟩, .string ⟨#[107]⟩] 9)) Y) (hgw : g = W.heap.size) (hW : Below w.heap.size w W) (hpv : PV.In W ⟨k8, S8, ql8, nl8, cl8, qh8, nh8, ch8, qz8, nz8, cz8, d8⟩) (hdv : PV.d ⟨k8, S8, ql8, nl8, cl8, qh8, nh8, ch8, qz8, nz8, cz8, d8⟩ = hashV (H)) => (show Calls Tryd.prog 11 #[.agg #[.int .u8 k8, .string S8, .slice ql8 nl8 cl8, .slice qh8 nh8 ch8, .slice qz8 nz8 cz8], .slice (some ⟨g, 0, none⟩) 2 2] Y (DoN (hashV (H)) (texts (allP H)) W) from by subst hgw; exact don_to (rfl) (on2 4 (by decide) ⟨#[104, 103, 101, 116, 97, 108, 108]⟩ ⟨#[107]⟩ (by decide) (by decide) (by decide) ⟨k8, S8, ql8, nl8, cl8, qh8, nh8, ch8, qz8, nz8, cz8, d8⟩ (H) W Y hY hpv hdv (HG.out W hW) (tame4 HU.out (by have := H8.out; omega) HFl.out))))
      obtain ⟨-, -, ra0, ra1, ra2, ra3, ra4⟩ := HV8.out.room
      dsimp only at ra0 ra1 ra2 ra3 ra4
      go_wp2_with fail
      clear ra0 ra1 ra2 ra3 ra4
      with_reducible refine (C1.out wr _ _ (Below.refl _ _) rfl HB.out HV8.out.pv HD8.out).mono ?_
      rintro e wa ⟨p9, vr9, rfl, hI, hd, hn, hA, hb⟩
      obtain ⟨k9, S9, ql9, nl9, cl9, qh9, nh9, ch9, qz9, nz9, cz9, d9⟩ := p9
      dsimp only [PV.agg]
      obtain ⟨qr9, cr9, rfl, hv9⟩ := ans_text hA NA HNA.out XA HXA.out
      have hbn := hb.trans ((Kit.below1 wa (.cells #[.int .u8 k9, .string S9, .slice ql9 nl9 cl9, .slice qh9 nh9 ch9, .slice qz9 nz9 cz9] 26)).mono hb.size)
      have HV8 := Lib.hid (HV8.out.keep hbn)
      have HRt := Lib.hid (HRt.out.keep hbn)
      have HXc := Lib.hid (fun W hW => HXc.out W (hbn.trans (Below.mono hW hbn.size)))
      have HB := Lib.hid (HB.out.trans (hbn.mono HB.out.size))
      have HV9 := Lib.hid (show VB _ wa.heap.size ⟨k9, S9, ql9, nl9, cl9, qh9, nh9, ch9, qz9, nz9, cz9, d9⟩ from VB.new hI)
      have HD9 := Lib.hid (show PV.d ⟨k9, S9, ql9, nl9, cl9, qh9, nh9, ch9, qz9, nz9, cz9, d9⟩ = _ from hd)
      have hbx := Kit.below1 wa (.cells #[.int .u8 k9, .string S9, .slice ql9 nl9 cl9, .slice qh9 nh9 ch9, .slice qz9 nz9 cz9] 26)
      have HC9 := Lib.hid (fun W hW => hv9 W (hbx.trans (Below.mono hW hbx.size)))
      clear hbx
      have HL9 := Lib.hid (show wr.heap.size ≤ wa.heap.size from Below.size hb)
      clear hI hd hn hA hb hbn hv9
      go_upto_region 9 with fail
      generalize hgg : wa.heap.size = g9 at HV9 HL9 ⊢
      clear hgg
      generalize wa.alloc (.cells #[.int .u8 k9, .string S9, .slice ql9 nl9 cl9, .slice qh9 nh9 ch9, .slice qz9 nz9 cz9] 26) = w4 at HV9 HV8 HRt HXc HB HC9 ⊢
      clear C1 HL9
      obtain ⟨x0, x1⟩ := HXc.out w4 (Below.refl _ _)
      go_upto_region 11 with fail
      rw [← hx, ← hy]
      clear x0 x1 HXc hx hy
      have CD := Lib.hid (fun (Y : World) (g : Nat) (hB : Below w.heap.size w Y) (hpv : PV.In Y ⟨k8, S8, ql8, nl8, cl8, qh8, nh8, ch8, qz8, nz8, cz8, d8⟩) (hss : StrT.Ss Y (some ⟨g, 0, none⟩) [(⟨#[104, 115, 101, 116]⟩ : ByteArray).data.toList, (⟨#[107]⟩ : ByteArray).data.toList, (⟨#[110]⟩ : ByteArray).data.toList, (F1 : ByteArray).data.toList]) => (show Calls Tryd.prog 11 #[.agg #[.int .u8 k8, .string S8, .slice ql8 nl8 cl8, .slice qh8 nh8 ch8, .slice qz8 nz8 cz8], .slice (some ⟨g, 0, none⟩) 4 4] Y (DoN (hashV (setP H [110] (Lib.itoa x))) (int (newN (getP H [110]))) Y) from don_to (by show rowD 0 H [[110], F1.data.toList] = _; rw [HF1.out]; rfl) (onR 0 (by decide) ⟨k8, S8, ql8, nl8, cl8, qh8, nh8, ch8, qz8, nz8, cz8, d8⟩ (H) ⟨#[104, 115, 101, 116]⟩ ⟨#[107]⟩ [(⟨#[110]⟩ : ByteArray).data.toList, (F1 : ByteArray).data.toList] (some ⟨g, 0, none⟩) 4 4 Y hpv HD8.out (HG.out Y hB) rfl (Nat.le_refl _) (by decide) hss (by decide) (by decide) (tame0 HU.out (Nat.le_refl 2) (by have := H8.out; omega)))))
      go_cut [13] (fun s13 wx => ∃ (g : Nat) (k2 : Int) (S2 : ByteArray) (ql2 : Option Addr) (nl2 cl2 : Nat) (qh2 : Option Addr) (nh2 ch2 : Nat) (qz2 : Option Addr) (nz2 cz2 : Nat) (d2 : V), s13 = .pointer (some ⟨g, 0, none⟩) ∧ Hid (VB wx g ⟨k2, S2, ql2, nl2, cl2, qh2, nh2, ch2, qz2, nz2, cz2, d2⟩) ∧ Hid (d2 = hashV (setP H [110] (Lib.itoa x))) ∧ Hid (Below w4.heap.size w4 wx))
      case first =>
        have hr0 : VB _ g8 ⟨k8, S8, ql8, nl8, cl8, qh8, nh8, ch8, qz8, nz8, cz8, d8⟩ := HV8.out
        obtain ⟨-, -, r00, r01, r02, r03, r04⟩ := hr0.room
        dsimp only at r00 r01 r02 r03 r04
        clear hr0
        have hr1 : VB _ g8 ⟨k8, S8, ql8, nl8, cl8, qh8, nh8, ch8, qz8, nz8, cz8, d8⟩ := HV8.out.keep (Kit.below1 _ (.cells #[.int .u8 0, .string ⟨#[]⟩, .slice none 0 0, .slice none 0 0, .slice none 0 0] 26))
        obtain ⟨-, -, r10, r11, r12, r13, r14⟩ := hr1.room
        dsimp only at r10 r11 r12 r13 r14
        clear hr1
        go_region_law (first
          | (go_simp; (with_reducible refine (CT1.out _).mono ?_); rintro e wq4 ⟨rfl, hb4⟩; dsimp only
             have hb4' : Below w4.heap.size w4 wq4 := by first | exact hb4 | exact c_dr hb4 | exact c_al hb4 | exact c_da hb4
             have HB4 := Lib.hid (HB.out.trans (hb4'.mono HB.out.size))
             have HW4 := Lib.hid hb4'
             have HL4 := Lib.hid hb4'.size
             have HL0 := Lib.hid HB.out.size
             have K_HV8 := Lib.hid (HV8.out.keep hb4')
             first
               | (have HZ4 := Lib.hid (show VZ wq4 w4.heap.size from vz_al hb4))
               | (have HZ4 := Lib.hid (show VZ wq4 w4.heap.size from vz_da hb4))
               | skip
             have hr2 : VB _ g8 ⟨k8, S8, ql8, nl8, cl8, qh8, nh8, ch8, qz8, nz8, cz8, d8⟩ := K_HV8.out
             obtain ⟨-, -, r20, r21, r22, r23, r24⟩ := hr2.room
             dsimp only at r20 r21 r22 r23 r24
             clear hr2
             have hr3 : VB _ g8 ⟨k8, S8, ql8, nl8, cl8, qh8, nh8, ch8, qz8, nz8, cz8, d8⟩ := K_HV8.out.keep (Kit.below1 _ (.cells #[.int .u8 0, .string ⟨#[]⟩, .slice none 0 0, .slice none 0 0, .slice none 0 0] 26))
             obtain ⟨-, -, r30, r31, r32, r33, r34⟩ := hr3.room
             dsimp only at r30 r31 r32 r33 r34
             clear hr3
             have hr4 : VB _ g8 ⟨k8, S8, ql8, nl8, cl8, qh8, nh8, ch8, qz8, nz8, cz8, d8⟩ := K_HV8.out.keep (Kit.below1 _ (.cells #[.string ⟨#[104, 115, 101, 116]⟩, .string ⟨#[107]⟩, .string ⟨#[110]⟩, .string F1] 9))
             obtain ⟨-, -, r40, r41, r42, r43, r44⟩ := hr4.room
             dsimp only at r40 r41 r42 r43 r44
             clear hr4
             have hr5 : VB _ g8 ⟨k8, S8, ql8, nl8, cl8, qh8, nh8, ch8, qz8, nz8, cz8, d8⟩ := (K_HV8.out.keep (Kit.below1 _ (.cells #[.int .u8 0, .string ⟨#[]⟩, .slice none 0 0, .slice none 0 0, .slice none 0 0] 26))).keep (Kit.below1 _ (.cells #[.string ⟨#[104, 115, 101, 116]⟩, .string ⟨#[107]⟩, .string ⟨#[110]⟩, .string F1] 9))
             obtain ⟨-, -, r50, r51, r52, r53, r54⟩ := hr5.room
             dsimp only at r50 r51 r52 r53 r54
             clear hr5
             have hr6 : VB _ g8 ⟨k8, S8, ql8, nl8, cl8, qh8, nh8, ch8, qz8, nz8, cz8, d8⟩ := (K_HV8.out.keep (Kit.below1 _ (.cells #[.string ⟨#[104, 115, 101, 116]⟩, .string ⟨#[107]⟩, .string ⟨#[110]⟩, .string F1] 9))).keep (Kit.below1 _ (.cells #[.int .u8 0, .string ⟨#[]⟩, .slice none 0 0, .slice none 0 0, .slice none 0 0] 26))
             obtain ⟨-, -, r60, r61, r62, r63, r64⟩ := hr6.room
             dsimp only at r60 r61 r62 r63 r64
             clear hr6
             clear hb4 hb4')
          | (go_simp; (with_reducible refine (CD.out _ _ (by first | exact HB4.out.alloc HB4.out.size _ | exact (HB4.out.alloc HB4.out.size _).alloc (Below.size (HB4.out.alloc HB4.out.size _)) _) (by first | exact (K_HV8.out.keep (Kit.below1 _ _)).pv | exact ((K_HV8.out.keep (Kit.below1 _ _)).keep (Kit.below1 _ _)).pv) (by first | exact ss4_at wq4 _ rfl ⟨#[104, 115, 101, 116]⟩ ⟨#[107]⟩ ⟨#[110]⟩ F1 | exact ss4_at _ _ (by simp) ⟨#[104, 115, 101, 116]⟩ ⟨#[107]⟩ ⟨#[110]⟩ F1 | exact StrT.Ss.keep (ss4_at wq4 _ rfl ⟨#[104, 115, 101, 116]⟩ ⟨#[107]⟩ ⟨#[110]⟩ F1) (Kit.below1 _ _))).mono ?_); rintro e wq5 ⟨p9, vr, rfl, hI, hd, hn, hA, hb5⟩; dsimp only [PV.agg]
             obtain ⟨k9, S9, ql9, nl9, cl9, qh9, nh9, ch9, qz9, nz9, cz9, d9⟩ := p9
             dsimp only
             obtain ⟨q9, c9, rfl, -⟩ := ans_text hA N0 HN0.out X0 HX0.out
             have hb5' : Below wq4.heap.size wq4 wq5 := by first | exact c_al (c_al hb5) | exact c_al hb5
             have HB5 := Lib.hid (HB4.out.trans (hb5'.mono HB4.out.size))
             have HL5 := Lib.hid hb5'.size
             have HE9 := Lib.hid (show d9 = _ from hd)
             have HW5 := Lib.hid (HW4.out.trans (hb5'.mono HW4.out.size))
             first
               | (have hzl := HZ4.out.lt
                  have hzc := HZ4.out.keep hb5'
                  have HGt := Lib.hid (gov_five (w := w4) hzc hI (fun j hj => by have h1 := hn j hj; have := HL4.out; first | omega | (simp at h1; omega)) (by have := HL4.out; omega) HW5.out hA (by have := HL4.out; have := HL0.out; first | (simp; done) | (simp; omega)))
                  obtain ⟨⟨z0, z1, z2, z3, z4⟩, y0, y1, y2, y3, y4⟩ := vz_facts hzc
                  clear hzc)
               | (have hzc : VZ wq5 wq4.heap.size := vz_al (c_al hb5)
                  have HGt := Lib.hid (gov_five (w := w4) hzc hI (fun j hj => by have h1 := hn j hj; have := HL4.out; first | omega | (simp at h1; omega)) (by have := HL4.out; omega) HW5.out hA (by have := HL4.out; have := HL0.out; first | (simp; done) | (simp; omega)))
                  obtain ⟨⟨z0, z1, z2, z3, z4⟩, y0, y1, y2, y3, y4⟩ := vz_facts hzc
                  clear hzc)
               | (have hzc : VZ wq5 (wq4.alloc (.cells #[.string ⟨#[104, 115, 101, 116]⟩, .string ⟨#[107]⟩, .string ⟨#[110]⟩, .string F1] 9)).heap.size := vz_al hb5
                  rw [show (wq4.alloc (.cells #[.string ⟨#[104, 115, 101, 116]⟩, .string ⟨#[107]⟩, .string ⟨#[110]⟩, .string F1] 9)).heap.size = wq4.heap.size + 1 by simp] at hzc
                  have HGt := Lib.hid (gov_five (w := w4) hzc hI (fun j hj => by have h1 := hn j hj; have := HL4.out; first | omega | (simp at h1; omega)) (by have := HL4.out; omega) HW5.out hA (by have := HL4.out; have := HL0.out; first | (simp; done) | (simp; omega)))
                  obtain ⟨⟨z0, z1, z2, z3, z4⟩, y0, y1, y2, y3, y4⟩ := vz_facts hzc
                  clear hzc)
               | (have HGt := Lib.hid (gov_new (w := w4) hI HW5.out hA))
             clear hI hd hn hA hb5 hb5'))
        all_goals
          go_wp2_with fail
          go_meet
          exact ⟨_, _, _, _, _, _, _, _, _, _, _, _, _, rfl, Lib.hid HGt.out.v, HE9, Lib.hid HGt.out.b⟩
      case rest =>
      obtain ⟨g2, k2, S2, ql2, nl2, cl2, qh2, nh2, ch2, qz2, nz2, cz2, d2, rfl, HV2, HD2, hbn⟩ := hcut
      rename World => w5
      have HV8 := Lib.hid (HV8.out.keep hbn.out)
      have HRt := Lib.hid (HRt.out.keep hbn.out)
      have HC9 := Lib.hid (fun W hW => HC9.out W (hbn.out.trans (Below.mono hW hbn.out.size)))
      have HB := Lib.hid (HB.out.trans (hbn.out.mono HB.out.size))
      clear hbn CD CT1
      go_upto_region 12 with fail
      have CD := Lib.hid (fun (Y : World) (g : Nat) (hB : Below w.heap.size w Y) (hpv : PV.In Y ⟨k2, S2, ql2, nl2, cl2, qh2, nh2, ch2, qz2, nz2, cz2, d2⟩) (hss : StrT.Ss Y (some ⟨g, 0, none⟩) [(⟨#[104, 105, 110, 99, 114, 98, 121]⟩ : ByteArray).data.toList, (⟨#[107]⟩ : ByteArray).data.toList, (⟨#[110]⟩ : ByteArray).data.toList, (F2 : ByteArray).data.toList]) => (show Calls Tryd.prog 11 #[.agg #[.int .u8 k2, .string S2, .slice ql2 nl2 cl2, .slice qh2 nh2 ch2, .slice qz2 nz2 cz2], .slice (some ⟨g, 0, none⟩) 4 4] Y (DoN (hashV (setP H [110] (Lib.itoa (x + y)))) (int (x + y)) Y) from don_to (HMr.out _ HF2.out) (onR 5 (by decide) ⟨k2, S2, ql2, nl2, cl2, qh2, nh2, ch2, qz2, nz2, cz2, d2⟩ (setP H [110] (Lib.itoa x)) ⟨#[104, 105, 110, 99, 114, 98, 121]⟩ ⟨#[107]⟩ [(⟨#[110]⟩ : ByteArray).data.toList, (F2 : ByteArray).data.toList] (some ⟨g, 0, none⟩) 4 4 Y hpv HD2.out (HG.out Y hB) rfl (Nat.le_refl _) (by decide) hss (by decide) (by decide) (tame5 HUx.out (Nat.le_refl 2) (by have := HLx.out; omega) (fun z hz => Nat.le_trans (HVx.out z hz) (by decide)) (by show F2.data.toList.length ≤ _; rw [str_len]; omega)))))
      go_cut [15, 16] (fun s15 s16 wx => ∃ (g : Nat) (k3 : Int) (S3 : ByteArray) (ql3 : Option Addr) (nl3 cl3 : Nat) (qh3 : Option Addr) (nh3 ch3 : Nat) (qz3 : Option Addr) (nz3 cz3 : Nat) (d3 : V), ∃ (qr : Option Addr) (cr : Nat), s15 = .pointer (some ⟨g, 0, none⟩) ∧ s16 = .slice qr NS cr ∧ Hid (VB wx g ⟨k3, S3, ql3, nl3, cl3, qh3, nh3, ch3, qz3, nz3, cz3, d3⟩) ∧ Hid (d3 = hashV (setP H [110] (Lib.itoa (x + y)))) ∧ Hid (Below w5.heap.size w5 wx) ∧ Hid (∀ W, Below wx.heap.size wx W → (convert 29 9 (.slice qr NS cr)).run Tryd.prog W = .ok (.string XS) W))
      case first =>
        have hr0 : VB _ g2 ⟨k2, S2, ql2, nl2, cl2, qh2, nh2, ch2, qz2, nz2, cz2, d2⟩ := HV2.out
        obtain ⟨-, -, r00, r01, r02, r03, r04⟩ := hr0.room
        dsimp only at r00 r01 r02 r03 r04
        clear hr0
        have hr1 : VB _ g2 ⟨k2, S2, ql2, nl2, cl2, qh2, nh2, ch2, qz2, nz2, cz2, d2⟩ := HV2.out.keep (Kit.below1 _ (.cells #[.int .u8 0, .string ⟨#[]⟩, .slice none 0 0, .slice none 0 0, .slice none 0 0] 26))
        obtain ⟨-, -, r10, r11, r12, r13, r14⟩ := hr1.room
        dsimp only at r10 r11 r12 r13 r14
        clear hr1
        go_region_law (first
          | (go_simp; (with_reducible refine (CT2.out _).mono ?_); rintro e wq4 ⟨rfl, hb4⟩; dsimp only
             have hb4' : Below w5.heap.size w5 wq4 := by first | exact hb4 | exact c_dr hb4 | exact c_al hb4 | exact c_da hb4
             have HB4 := Lib.hid (HB.out.trans (hb4'.mono HB.out.size))
             have HW4 := Lib.hid hb4'
             have HL4 := Lib.hid hb4'.size
             have HL0 := Lib.hid HB.out.size
             have K_HV2 := Lib.hid (HV2.out.keep hb4')
             first
               | (have HZ4 := Lib.hid (show VZ wq4 w5.heap.size from vz_al hb4))
               | (have HZ4 := Lib.hid (show VZ wq4 w5.heap.size from vz_da hb4))
               | skip
             have hr2 : VB _ g2 ⟨k2, S2, ql2, nl2, cl2, qh2, nh2, ch2, qz2, nz2, cz2, d2⟩ := K_HV2.out
             obtain ⟨-, -, r20, r21, r22, r23, r24⟩ := hr2.room
             dsimp only at r20 r21 r22 r23 r24
             clear hr2
             have hr3 : VB _ g2 ⟨k2, S2, ql2, nl2, cl2, qh2, nh2, ch2, qz2, nz2, cz2, d2⟩ := K_HV2.out.keep (Kit.below1 _ (.cells #[.int .u8 0, .string ⟨#[]⟩, .slice none 0 0, .slice none 0 0, .slice none 0 0] 26))
             obtain ⟨-, -, r30, r31, r32, r33, r34⟩ := hr3.room
             dsimp only at r30 r31 r32 r33 r34
             clear hr3
             have hr4 : VB _ g2 ⟨k2, S2, ql2, nl2, cl2, qh2, nh2, ch2, qz2, nz2, cz2, d2⟩ := K_HV2.out.keep (Kit.below1 _ (.cells #[.string ⟨#[104, 105, 110, 99, 114, 98, 121]⟩, .string ⟨#[107]⟩, .string ⟨#[110]⟩, .string F2] 9))
             obtain ⟨-, -, r40, r41, r42, r43, r44⟩ := hr4.room
             dsimp only at r40 r41 r42 r43 r44
             clear hr4
             have hr5 : VB _ g2 ⟨k2, S2, ql2, nl2, cl2, qh2, nh2, ch2, qz2, nz2, cz2, d2⟩ := (K_HV2.out.keep (Kit.below1 _ (.cells #[.int .u8 0, .string ⟨#[]⟩, .slice none 0 0, .slice none 0 0, .slice none 0 0] 26))).keep (Kit.below1 _ (.cells #[.string ⟨#[104, 105, 110, 99, 114, 98, 121]⟩, .string ⟨#[107]⟩, .string ⟨#[110]⟩, .string F2] 9))
             obtain ⟨-, -, r50, r51, r52, r53, r54⟩ := hr5.room
             dsimp only at r50 r51 r52 r53 r54
             clear hr5
             have hr6 : VB _ g2 ⟨k2, S2, ql2, nl2, cl2, qh2, nh2, ch2, qz2, nz2, cz2, d2⟩ := (K_HV2.out.keep (Kit.below1 _ (.cells #[.string ⟨#[104, 105, 110, 99, 114, 98, 121]⟩, .string ⟨#[107]⟩, .string ⟨#[110]⟩, .string F2] 9))).keep (Kit.below1 _ (.cells #[.int .u8 0, .string ⟨#[]⟩, .slice none 0 0, .slice none 0 0, .slice none 0 0] 26))
             obtain ⟨-, -, r60, r61, r62, r63, r64⟩ := hr6.room
             dsimp only at r60 r61 r62 r63 r64
             clear hr6
             clear hb4 hb4')
          | (go_simp; (with_reducible refine (CD.out _ _ (by first | exact HB4.out.alloc HB4.out.size _ | exact (HB4.out.alloc HB4.out.size _).alloc (Below.size (HB4.out.alloc HB4.out.size _)) _) (by first | exact (K_HV2.out.keep (Kit.below1 _ _)).pv | exact ((K_HV2.out.keep (Kit.below1 _ _)).keep (Kit.below1 _ _)).pv) (by first | exact ss4_at wq4 _ rfl ⟨#[104, 105, 110, 99, 114, 98, 121]⟩ ⟨#[107]⟩ ⟨#[110]⟩ F2 | exact ss4_at _ _ (by simp) ⟨#[104, 105, 110, 99, 114, 98, 121]⟩ ⟨#[107]⟩ ⟨#[110]⟩ F2 | exact StrT.Ss.keep (ss4_at wq4 _ rfl ⟨#[104, 105, 110, 99, 114, 98, 121]⟩ ⟨#[107]⟩ ⟨#[110]⟩ F2) (Kit.below1 _ _))).mono ?_); rintro e wq5 ⟨p9, vr, rfl, hI, hd, hn, hA, hb5⟩; dsimp only [PV.agg]
             obtain ⟨k9, S9, ql9, nl9, cl9, qh9, nh9, ch9, qz9, nz9, cz9, d9⟩ := p9
             dsimp only
             obtain ⟨q9, c9, rfl, -⟩ := ans_text hA NS HNS.out XS HXS.out
             have hb5' : Below wq4.heap.size wq4 wq5 := by first | exact c_al (c_al hb5) | exact c_al hb5
             have HB5 := Lib.hid (HB4.out.trans (hb5'.mono HB4.out.size))
             have HL5 := Lib.hid hb5'.size
             have HE9 := Lib.hid (show d9 = _ from hd)
             have HW5 := Lib.hid (HW4.out.trans (hb5'.mono HW4.out.size))
             first
               | (have hzl := HZ4.out.lt
                  have hzc := HZ4.out.keep hb5'
                  have HGt := Lib.hid (gov_five (w := w5) hzc hI (fun j hj => by have h1 := hn j hj; have := HL4.out; first | omega | (simp at h1; omega)) (by have := HL4.out; omega) HW5.out hA (by have := HL4.out; have := HL0.out; first | (simp; done) | (simp; omega)))
                  obtain ⟨⟨z0, z1, z2, z3, z4⟩, y0, y1, y2, y3, y4⟩ := vz_facts hzc
                  clear hzc)
               | (have hzc : VZ wq5 wq4.heap.size := vz_al (c_al hb5)
                  have HGt := Lib.hid (gov_five (w := w5) hzc hI (fun j hj => by have h1 := hn j hj; have := HL4.out; first | omega | (simp at h1; omega)) (by have := HL4.out; omega) HW5.out hA (by have := HL4.out; have := HL0.out; first | (simp; done) | (simp; omega)))
                  obtain ⟨⟨z0, z1, z2, z3, z4⟩, y0, y1, y2, y3, y4⟩ := vz_facts hzc
                  clear hzc)
               | (have hzc : VZ wq5 (wq4.alloc (.cells #[.string ⟨#[104, 105, 110, 99, 114, 98, 121]⟩, .string ⟨#[107]⟩, .string ⟨#[110]⟩, .string F2] 9)).heap.size := vz_al hb5
                  rw [show (wq4.alloc (.cells #[.string ⟨#[104, 105, 110, 99, 114, 98, 121]⟩, .string ⟨#[107]⟩, .string ⟨#[110]⟩, .string F2] 9)).heap.size = wq4.heap.size + 1 by simp] at hzc
                  have HGt := Lib.hid (gov_five (w := w5) hzc hI (fun j hj => by have h1 := hn j hj; have := HL4.out; first | omega | (simp at h1; omega)) (by have := HL4.out; omega) HW5.out hA (by have := HL4.out; have := HL0.out; first | (simp; done) | (simp; omega)))
                  obtain ⟨⟨z0, z1, z2, z3, z4⟩, y0, y1, y2, y3, y4⟩ := vz_facts hzc
                  clear hzc)
               | (have HGt := Lib.hid (gov_new (w := w5) hI HW5.out hA))
             clear hI hd hn hA hb5 hb5'))
        all_goals
          go_wp2_with fail
          go_meet
          exact ⟨_, _, _, _, _, _, _, _, _, _, _, _, _, _, _, rfl, rfl, Lib.hid HGt.out.v, HE9, Lib.hid HGt.out.b, Lib.hid (ans_at HGt.out.a XS HXS.out)⟩
      case rest =>
      obtain ⟨g3, k3, S3, ql3, nl3, cl3, qh3, nh3, ch3, qz3, nz3, cz3, d3, q16, c16, rfl, rfl, HV3, HD3, hbn, HC16⟩ := hcut
      rename World => w6
      have HV8 := Lib.hid (HV8.out.keep hbn.out)
      have HRt := Lib.hid (HRt.out.keep hbn.out)
      have HC9 := Lib.hid (fun W hW => HC9.out W (hbn.out.trans (Below.mono hW hbn.out.size)))
      have HB := Lib.hid (HB.out.trans (hbn.out.mono HB.out.size))
      clear hbn CD CT2 HV2 HD2
      go_upto_region 13 with fail
      have C1 := Lib.hid (fun (W Y : World) (g : Nat) (hY : Below (W.alloc (.cells #[.string ⟨#[104, 103, 101, 116]⟩, .string ⟨#[107]⟩, .string ⟨#[110]⟩] 9)).heap.size (W.alloc (.cells #[.string ⟨#[104, 103, 101, 116]⟩, .string ⟨#[107]⟩, .string ⟨#[110]⟩] 9)) Y) (hgw : g = W.heap.size) (hW : Below w.heap.size w W) (hpv : PV.In W ⟨k3, S3, ql3, nl3, cl3, qh3, nh3, ch3, qz3, nz3, cz3, d3⟩) (hdv : PV.d ⟨k3, S3, ql3, nl3, cl3, qh3, nh3, ch3, qz3, nz3, cz3, d3⟩ = hashV (setP H [110] (Lib.itoa (x + y)))) => (show Calls Tryd.prog 11 #[.agg #[.int .u8 k3, .string S3, .slice ql3 nl3 cl3, .slice qh3 nh3 ch3, .slice qz3 nz3 cz3], .slice (some ⟨g, 0, none⟩) 3 3] Y (DoN (hashV (setP H [110] (Lib.itoa (x + y)))) (bulk (Lib.itoa (x + y))) W) from by subst hgw; exact don_to (got_row _ _ _) (on3 1 (by decide) ⟨#[104, 103, 101, 116]⟩ ⟨#[107]⟩ ⟨#[110]⟩ (by decide) (by decide) (by decide) ⟨k3, S3, ql3, nl3, cl3, qh3, nh3, ch3, qz3, nz3, cz3, d3⟩ (setP H [110] (Lib.itoa (x + y))) W Y hY hpv hdv (HG.out W hW) (tame1 HUy.out (Nat.le_refl 1) HVy.out))))
      obtain ⟨-, -, ra0, ra1, ra2, ra3, ra4⟩ := HV3.out.room
      dsimp only at ra0 ra1 ra2 ra3 ra4
      go_wp2_with fail
      clear ra0 ra1 ra2 ra3 ra4
      with_reducible refine (C1.out w6 _ _ (Below.refl _ _) rfl HB.out HV3.out.pv HD3.out).mono ?_
      rintro e wa ⟨p4, vr4, rfl, hI, hd, hn, hA, hb⟩
      obtain ⟨k4, S4, ql4, nl4, cl4, qh4, nh4, ch4, qz4, nz4, cz4, d4⟩ := p4
      dsimp only [PV.agg]
      obtain ⟨qr4, cr4, rfl, hv4⟩ := ans_text hA NB HNB.out XB HXB.out
      have hbn := hb.trans ((Kit.below1 wa (.cells #[.int .u8 k4, .string S4, .slice ql4 nl4 cl4, .slice qh4 nh4 ch4, .slice qz4 nz4 cz4] 26)).mono hb.size)
      have HV8 := Lib.hid (HV8.out.keep hbn)
      have HRt := Lib.hid (HRt.out.keep hbn)
      have HC9 := Lib.hid (fun W hW => HC9.out W (hbn.trans (Below.mono hW hbn.size)))
      have HC16 := Lib.hid (fun W hW => HC16.out W (hbn.trans (Below.mono hW hbn.size)))
      have HB := Lib.hid (HB.out.trans (hbn.mono HB.out.size))
      have HV4 := Lib.hid (show VB _ wa.heap.size ⟨k4, S4, ql4, nl4, cl4, qh4, nh4, ch4, qz4, nz4, cz4, d4⟩ from VB.new hI)
      have HD4 := Lib.hid (show PV.d ⟨k4, S4, ql4, nl4, cl4, qh4, nh4, ch4, qz4, nz4, cz4, d4⟩ = _ from hd)
      have hbx := Kit.below1 wa (.cells #[.int .u8 k4, .string S4, .slice ql4 nl4 cl4, .slice qh4 nh4 ch4, .slice qz4 nz4 cz4] 26)
      have HC4 := Lib.hid (fun W hW => hv4 W (hbx.trans (Below.mono hW hbx.size)))
      clear hbx
      have HL4 := Lib.hid (show w6.heap.size ≤ wa.heap.size from Below.size hb)
      clear hI hd hn hA hb hbn hv4
      go_upto_region 14 with fail
      generalize hgg : wa.heap.size = g4 at HV4 HL4 ⊢
      clear hgg
      generalize wa.alloc (.cells #[.int .u8 k4, .string S4, .slice ql4 nl4 cl4, .slice qh4 nh4 ch4, .slice qz4 nz4 cz4] 26) = w7 at HV4 HV8 HRt HC9 HC16 HB HC4 ⊢
      clear C1 HL4
      clear HV3 HD3 HV4 HD4
      have C1 := Lib.hid (fun (W Y : World) (g : Nat) (hY : Below (W.alloc (.cells #[.string ⟨#[104, 115, 101, 116]⟩, .string ⟨#[107]⟩, .string ⟨#[110]⟩, .string ⟨#[120]⟩] 9)).heap.size (W.alloc (.cells #[.string ⟨#[104, 115, 101, 116]⟩, .string ⟨#[107]⟩, .string ⟨#[110]⟩, .string ⟨#[120]⟩] 9)) Y) (hgw : g = W.heap.size) (hW : Below w.heap.size w W) (hpv : PV.In W ⟨k8, S8, ql8, nl8, cl8, qh8, nh8, ch8, qz8, nz8, cz8, d8⟩) (hdv : PV.d ⟨k8, S8, ql8, nl8, cl8, qh8, nh8, ch8, qz8, nz8, cz8, d8⟩ = hashV (H)) => (show Calls Tryd.prog 11 #[.agg #[.int .u8 k8, .string S8, .slice ql8 nl8 cl8, .slice qh8 nh8 ch8, .slice qz8 nz8 cz8], .slice (some ⟨g, 0, none⟩) 4 4] Y (DoN (hashV (setP H [110] [120])) (int (newN (getP H [110]))) W) from by subst hgw; exact don_to (set_row _ _ _) (on4 0 (by decide) ⟨#[104, 115, 101, 116]⟩ ⟨#[107]⟩ ⟨#[110]⟩ ⟨#[120]⟩ (by decide) (by decide) (by decide) ⟨k8, S8, ql8, nl8, cl8, qh8, nh8, ch8, qz8, nz8, cz8, d8⟩ (H) W Y hY hpv hdv (HG.out W hW) (tame0 HU.out (Nat.le_refl 2) (by have := H8.out; omega)))))
      obtain ⟨-, -, ra0, ra1, ra2, ra3, ra4⟩ := HV8.out.room
      dsimp only at ra0 ra1 ra2 ra3 ra4
      go_wp2_with fail
      clear ra0 ra1 ra2 ra3 ra4
      with_reducible refine (C1.out w7 _ _ (Below.refl _ _) rfl HB.out HV8.out.pv HD8.out).mono ?_
      rintro e wa ⟨p5, vr5, rfl, hI, hd, hn, hA, hb⟩
      obtain ⟨k5, S5, ql5, nl5, cl5, qh5, nh5, ch5, qz5, nz5, cz5, d5⟩ := p5
      dsimp only [PV.agg]
      have hbn := hb.trans ((Kit.below1 wa (.cells #[.int .u8 k5, .string S5, .slice ql5 nl5 cl5, .slice qh5 nh5 ch5, .slice qz5 nz5 cz5] 26)).mono hb.size)
      have HRt := Lib.hid (HRt.out.keep hbn)
      have HC9 := Lib.hid (fun W hW => HC9.out W (hbn.trans (Below.mono hW hbn.size)))
      have HC16 := Lib.hid (fun W hW => HC16.out W (hbn.trans (Below.mono hW hbn.size)))
      have HC4 := Lib.hid (fun W hW => HC4.out W (hbn.trans (Below.mono hW hbn.size)))
      have HB := Lib.hid (HB.out.trans (hbn.mono HB.out.size))
      have HV5 := Lib.hid (show VB _ wa.heap.size ⟨k5, S5, ql5, nl5, cl5, qh5, nh5, ch5, qz5, nz5, cz5, d5⟩ from VB.new hI)
      have HD5 := Lib.hid (show PV.d ⟨k5, S5, ql5, nl5, cl5, qh5, nh5, ch5, qz5, nz5, cz5, d5⟩ = _ from hd)
      have HL5 := Lib.hid (show w7.heap.size ≤ wa.heap.size from Below.size hb)
      clear hI hd hn hA hb hbn
      go_upto_region 15 with fail
      generalize hgg : wa.heap.size = g5 at HV5 HL5 ⊢
      clear hgg
      generalize wa.alloc (.cells #[.int .u8 k5, .string S5, .slice ql5 nl5 cl5, .slice qh5 nh5 ch5, .slice qz5 nz5 cz5] 26) = w8 at HV5 HRt HC9 HC16 HC4 HB ⊢
      clear C1 HL5
      have C1 := Lib.hid (fun (W Y : World) (g : Nat) (hY : Below (W.alloc (.cells #[.string ⟨#[104, 105, 110, 99, 114, 98, 121]⟩, .string ⟨#[107]⟩, .string ⟨#[110]⟩, .string ⟨#[49]⟩] 9)).heap.size (W.alloc (.cells #[.string ⟨#[104, 105, 110, 99, 114, 98, 121]⟩, .string ⟨#[107]⟩, .string ⟨#[110]⟩, .string ⟨#[49]⟩] 9)) Y) (hgw : g = W.heap.size) (hW : Below w.heap.size w W) (hpv : PV.In W ⟨k5, S5, ql5, nl5, cl5, qh5, nh5, ch5, qz5, nz5, cz5, d5⟩) (hdv : PV.d ⟨k5, S5, ql5, nl5, cl5, qh5, nh5, ch5, qz5, nz5, cz5, d5⟩ = hashV (setP H [110] [120])) => (show Calls Tryd.prog 11 #[.agg #[.int .u8 k5, .string S5, .slice ql5 nl5 cl5, .slice qh5 nh5 ch5, .slice qz5 nz5 cz5], .slice (some ⟨g, 0, none⟩) 4 4] Y (DoN (hashV (setP H [110] [120])) (eInt) W) from by subst hgw; exact don_to (odd_row _ _) (on4 5 (by decide) ⟨#[104, 105, 110, 99, 114, 98, 121]⟩ ⟨#[107]⟩ ⟨#[110]⟩ ⟨#[49]⟩ (by decide) (by decide) (by decide) ⟨k5, S5, ql5, nl5, cl5, qh5, nh5, ch5, qz5, nz5, cz5, d5⟩ (setP H [110] [120]) W Y hY hpv hdv (HG.out W hW) (tame5 HUo.out (Nat.le_refl 2) (by have := HLo.out; omega) (fun z hz => Nat.le_trans (HVo.out z hz) (by decide)) (by decide)))))
      obtain ⟨-, -, ra0, ra1, ra2, ra3, ra4⟩ := HV5.out.room
      dsimp only at ra0 ra1 ra2 ra3 ra4
      go_wp2_with fail
      clear ra0 ra1 ra2 ra3 ra4
      with_reducible refine (C1.out w8 _ _ (Below.refl _ _) rfl HB.out HV5.out.pv HD5.out).mono ?_
      rintro e wa ⟨p6, vr6, rfl, hI, hd, hn, hA, hb⟩
      obtain ⟨k6, S6, ql6, nl6, cl6, qh6, nh6, ch6, qz6, nz6, cz6, d6⟩ := p6
      dsimp only [PV.agg]
      obtain ⟨qr6, cr6, rfl, hv6⟩ := ans_text hA 46 (by decide +kernel) ⟨#[45, 69, 82, 82, 32, 118, 97, 108, 117, 101, 32, 105, 115, 32, 110, 111, 116, 32, 97, 110, 32, 105, 110, 116, 101, 103, 101, 114, 32, 111, 114, 32, 111, 117, 116, 32, 111, 102, 32, 114, 97, 110, 103, 101, 13, 10]⟩ (by decide +kernel)
      have hbn := hb.trans ((Kit.below1 wa (.cells #[.int .u8 k6, .string S6, .slice ql6 nl6 cl6, .slice qh6 nh6 ch6, .slice qz6 nz6 cz6] 26)).mono hb.size)
      have HRt := Lib.hid (HRt.out.keep hbn)
      have HC9 := Lib.hid (fun W hW => HC9.out W (hbn.trans (Below.mono hW hbn.size)))
      have HC16 := Lib.hid (fun W hW => HC16.out W (hbn.trans (Below.mono hW hbn.size)))
      have HC4 := Lib.hid (fun W hW => HC4.out W (hbn.trans (Below.mono hW hbn.size)))
      have HB := Lib.hid (HB.out.trans (hbn.mono HB.out.size))
      have HV6 := Lib.hid (show VB _ wa.heap.size ⟨k6, S6, ql6, nl6, cl6, qh6, nh6, ch6, qz6, nz6, cz6, d6⟩ from VB.new hI)
      have HD6 := Lib.hid (show PV.d ⟨k6, S6, ql6, nl6, cl6, qh6, nh6, ch6, qz6, nz6, cz6, d6⟩ = _ from hd)
      have hbx := Kit.below1 wa (.cells #[.int .u8 k6, .string S6, .slice ql6 nl6 cl6, .slice qh6 nh6 ch6, .slice qz6 nz6 cz6] 26)
      have HC6 := Lib.hid (fun W hW => hv6 W (hbx.trans (Below.mono hW hbx.size)))
      clear hbx
      have HL6 := Lib.hid (show w8.heap.size ≤ wa.heap.size from Below.size hb)
      clear hI hd hn hA hb hbn hv6
      go_upto_region 16 with fail
      generalize hgg : wa.heap.size = g6 at HV6 HL6 ⊢
      clear hgg
      generalize wa.alloc (.cells #[.int .u8 k6, .string S6, .slice ql6 nl6 cl6, .slice qh6 nh6 ch6, .slice qz6 nz6 cz6] 26) = w9 at HV6 HRt HC9 HC16 HC4 HB HC6 ⊢
      clear C1 HL6
      have hc9 := HC9.out
      have hc16 := HC16.out
      have hc4 := HC4.out
      have hc6 := HC6.out
      have A1 := Lib.hid (fun W (h : Below w9.heap.size w9 W) => (show Calls Tryd.prog 16 #[.slice q7 m7 c7] W (Said w9 W NA XA) from (rtexts_sum q7 (allP H) m7 c7 W HRt.out.ln (HRt.out.keep h).ss (by omega) HFl.out).mono (fun e w' hh => said_of hh h NA HNA.out XA HXA.out)))
      have A2 := Lib.hid (fun W (h : Below w9.heap.size w9 W) => (show Calls Tryd.prog 14 #[.int .i64 (x + y)] W (Said w9 W NS XS) from (rint (x + y) W (by have := HX.out; omega) (by have := HX.out; omega)).mono (fun e w' hh => said_of hh h NS HNS.out XS HXS.out)))
      have A3 := Lib.hid (fun W (h : Below w9.heap.size w9 W) => (show Calls Tryd.prog 15 #[.int .i64 (x + y)] W (Plain w9 W (.string F3)) from (CT3.out W).mono (fun e w' hh => plain_of hh.1 hh.2 h)))
      have A4 := Lib.hid (fun W (h : Below w9.heap.size w9 W) => (show Calls Tryd.prog 12 #[.string F3] W (Said w9 W NB XB) from (rbulk F3 W (by omega)).mono (fun e w' hh => said_of (hh.of (by rw [HF3.out])) h NB HNB.out XB HXB.out)))
      have hsum : IntKind.i64.wrap (x + y) = x + y ∧ wrap64 (x + y) = x + y := sum_in (by have := HX.out; omega)
      clear HC9 HC16 HC4 HC6 HV5 HV6 HD5 HD6 HV8 HD8 HRt CT3 HF1 HF2 HF3 HU HUx HUy HUo HVv HVx HVy HVo HLx HLo HMr HNA HXA HN0 HX0 HNS HXS HNB HXB HFl H8 HG hF1z hF2z hF3z
      obtain ⟨e1, e2⟩ := hsum
      refine wp_region_held_drew (S := fun W => Below w9.heap.size w9 W ∧ Below w9.heap.size w9 W) (by kernel_rfl) ?_ (fun hHeld => ?_)
      · exact ⟨(Below.refl _ _).drew, (Below.refl _ _).drew⟩
      refine wpAnyH_take (i := 0) (v := ?_) rfl (by kernel_rfl) (by kernel_rfl) (by kernel_rfl) (fun _ _ _ h => h) (Or.inl ⟨by rfl, ?_⟩) (by assumption) ?_
      rotate_left
      · intro W0 hSw; obtain ⟨hSa, hSb⟩ := hSw; go_simp; all_goals (with_reducible rfl)
      try simp only [Act.put, List.getElem_toArray, List.getElem_cons_zero, List.setIfInBounds_toArray, List.set_cons_zero, List.set_cons_succ]
      refine wpAnyH_take (i := 1) (v := ?_) rfl (by kernel_rfl) (by kernel_rfl) (by kernel_rfl) (fun _ _ _ h => h) (Or.inl ⟨by rfl, ?_⟩) (by assumption) ?_
      rotate_left
      · intro W0 hSw; obtain ⟨hSa, hSb⟩ := hSw; go_simp; all_goals (with_reducible rfl)
      try simp only [Act.put, List.getElem_toArray, List.getElem_cons_succ, List.getElem_cons_zero, List.setIfInBounds_toArray, List.set_cons_zero, List.set_cons_succ]
      refine wpAnyH_take (i := 2) (v := ?_) rfl (by kernel_rfl) (by kernel_rfl) (by kernel_rfl) (fun _ _ _ h => h) (Or.inl ⟨by rfl, ?_⟩) (by assumption) ?_
      rotate_left
      · intro W0 hSw; obtain ⟨hSa, hSb⟩ := hSw; go_simp; all_goals (with_reducible rfl)
      try simp only [Act.put, List.getElem_toArray, List.getElem_cons_succ, List.getElem_cons_zero, List.setIfInBounds_toArray, List.set_cons_zero, List.set_cons_succ]
      refine wpAnyH_take (i := 3) (v := ?_) rfl (by kernel_rfl) (by kernel_rfl) (by kernel_rfl) (fun _ _ _ h => h) (Or.inl ⟨by rfl, ?_⟩) (by assumption) ?_
      rotate_left
      · intro W0 hSw; obtain ⟨hSa, hSb⟩ := hSw; go_simp; all_goals (with_reducible rfl)
      try simp only [Act.put, List.getElem_toArray, List.getElem_cons_succ, List.getElem_cons_zero, List.setIfInBounds_toArray, List.set_cons_zero, List.set_cons_succ]
      refine wpAnyH_take (i := 4) (v := ?_) rfl (by kernel_rfl) (by kernel_rfl) (by kernel_rfl) (fun _ _ _ h => h) (Or.inl ⟨by rfl, ?_⟩) (by assumption) ?_
      rotate_left
      · intro W0 hSw; obtain ⟨hSa, hSb⟩ := hSw; go_simp; all_goals (with_reducible rfl)
      try simp only [Act.put, List.getElem_toArray, List.getElem_cons_succ, List.getElem_cons_zero, List.setIfInBounds_toArray, List.set_cons_zero, List.set_cons_succ]
      refine wpAnyH_ready (rs := [5]) (by kernel_rfl) (by simp) ?_
      refine AllReadyH.cons rfl (fun K hK => ?_) AllReadyH.nil
      go_simp
      go_wp2_with (go_at_call 16; (refine (A1.out _ hHeld.1).mono ?_); rintro e wA0 ⟨pwA0, cwA0, rfl, vwA0, bwA0, ywA0, zwA0⟩)
      have hC := hHeld.2.trans (ywA0.mono hHeld.2.size)
      refine hK.out _ _ ?_ (fun hHeld2 => ?_)
      · exact ⟨bwA0, hC⟩
      clear hK K hHeld hHeld2
      have hHeld : Below w9.heap.size w9 wA0 ∧ Below wA0.heap.size wA0 wA0 := ⟨bwA0, zwA0⟩
      refine held_mono (S' := fun W => Below w9.heap.size w9 W ∧ Below wA0.heap.size wA0 W) (fun W hW => ⟨hW.1, hC.trans (hW.2.mono hC.size)⟩) _ _ _ _ ?_
      clear hC
      refine wpAnyH_take (i := 6) (v := ?_) rfl (by kernel_rfl) (by kernel_rfl) (by kernel_rfl) (fun _ _ _ h => h) (Or.inl ⟨by rfl, ?_⟩) (by assumption) ?_
      rotate_left
      · intro W0 hSw; obtain ⟨hSa, hSb⟩ := hSw; go_simp; all_goals (with_reducible rfl)
      try simp only [Act.put, List.getElem_toArray, List.getElem_cons_succ, List.getElem_cons_zero, List.setIfInBounds_toArray, List.set_cons_zero, List.set_cons_succ]
      refine wpAnyH_take (i := 7) (v := ?_) rfl (by kernel_rfl) (by kernel_rfl) (by kernel_rfl) (fun _ _ _ h => h) (Or.inl ⟨by rfl, ?_⟩) (by assumption) ?_
      rotate_left
      · intro W0 hSw; obtain ⟨hSa, hSb⟩ := hSw; go_simp; all_goals (with_reducible rfl)
      try simp only [Act.put, List.getElem_toArray, List.getElem_cons_succ, List.getElem_cons_zero, List.setIfInBounds_toArray, List.set_cons_zero, List.set_cons_succ]
      refine wpAnyH_take (i := 8) (v := ?_) rfl (by kernel_rfl) (by kernel_rfl) (by kernel_rfl) (fun _ _ _ h => h) (Or.inl ⟨by rfl, ?_⟩) (by assumption) ?_
      rotate_left
      · intro W0 hSw; obtain ⟨hSa, hSb⟩ := hSw; go_simp; all_goals (with_reducible rfl)
      try simp only [Act.put, List.getElem_toArray, List.getElem_cons_succ, List.getElem_cons_zero, List.setIfInBounds_toArray, List.set_cons_zero, List.set_cons_succ]
      refine wpAnyH_take (i := 9) (v := ?_) rfl (by kernel_rfl) (by kernel_rfl) (by kernel_rfl) (fun _ _ _ h => h) (Or.inl ⟨by rfl, ?_⟩) (by assumption) ?_
      rotate_left
      · intro W0 hSw; obtain ⟨hSa, hSb⟩ := hSw; go_simp; all_goals (with_reducible rfl)
      try simp only [Act.put, List.getElem_toArray, List.getElem_cons_succ, List.getElem_cons_zero, List.setIfInBounds_toArray, List.set_cons_zero, List.set_cons_succ]
      refine wpAnyH_take (i := 10) (v := ?_) rfl (by kernel_rfl) (by kernel_rfl) (by kernel_rfl) (fun _ _ _ h => h) (Or.inl ⟨by rfl, ?_⟩) (by assumption) ?_
      rotate_left
      · intro W0 hSw; obtain ⟨hSa, hSb⟩ := hSw; go_simp; all_goals (with_reducible rfl)
      try simp only [Act.put, List.getElem_toArray, List.getElem_cons_succ, List.getElem_cons_zero, List.setIfInBounds_toArray, List.set_cons_zero, List.set_cons_succ]
      refine wpAnyH_take (i := 11) (v := ?_) rfl (by kernel_rfl) (by kernel_rfl) (by kernel_rfl) (fun _ _ _ h => h) (Or.inl ⟨by rfl, ?_⟩) (by assumption) ?_
      rotate_left
      · intro W0 hSw; obtain ⟨hSa, hSb⟩ := hSw; go_simp; all_goals (with_reducible rfl)
      try simp only [Act.put, List.getElem_toArray, List.getElem_cons_succ, List.getElem_cons_zero, List.setIfInBounds_toArray, List.set_cons_zero, List.set_cons_succ]
      refine wpAnyH_take (i := 12) (v := ?_) rfl (by kernel_rfl) (by kernel_rfl) (by kernel_rfl) (fun _ _ _ h => h) (Or.inl ⟨by rfl, ?_⟩) (by assumption) ?_
      rotate_left
      · intro W0 hSw; obtain ⟨hSa, hSb⟩ := hSw; go_simp; all_goals (with_reducible rfl)
      try simp only [Act.put, List.getElem_toArray, List.getElem_cons_succ, List.getElem_cons_zero, List.setIfInBounds_toArray, List.set_cons_zero, List.set_cons_succ]
      refine wpAnyH_take (i := 13) (v := ?_) rfl (by kernel_rfl) (by kernel_rfl) (by kernel_rfl) (fun _ _ _ h => h) (Or.inl ⟨by rfl, ?_⟩) (by assumption) ?_
      rotate_left
      · intro W0 hSw; obtain ⟨hSa, hSb⟩ := hSw; go_simp; all_goals (with_reducible rfl)
      try simp only [Act.put, List.getElem_toArray, List.getElem_cons_succ, List.getElem_cons_zero, List.setIfInBounds_toArray, List.set_cons_zero, List.set_cons_succ]
      refine wpAnyH_take (i := 14) (v := ?_) rfl (by kernel_rfl) (by kernel_rfl) (by kernel_rfl) (fun _ _ _ h => h) (Or.inl ⟨by rfl, ?_⟩) (by assumption) ?_
      rotate_left
      · intro W0 hSw; obtain ⟨hSa, hSb⟩ := hSw; go_simp; all_goals (with_reducible rfl)
      try simp only [Act.put, List.getElem_toArray, List.getElem_cons_succ, List.getElem_cons_zero, List.setIfInBounds_toArray, List.set_cons_zero, List.set_cons_succ]
      refine wpAnyH_ready (rs := [15]) (by kernel_rfl) (by simp) ?_
      refine AllReadyH.cons rfl (fun K hK => ?_) AllReadyH.nil
      go_simp
      go_wp2_with (go_at_call 14; (refine (A2.out _ hHeld.1).mono ?_); rintro e wA1 ⟨pwA1, cwA1, rfl, vwA1, bwA1, ywA1, zwA1⟩)
      have hC := hHeld.2.trans (ywA1.mono hHeld.2.size)
      refine hK.out _ _ ?_ (fun hHeld2 => ?_)
      · exact ⟨bwA1, hC⟩
      clear hK K hHeld hHeld2
      have hHeld : Below w9.heap.size w9 wA1 ∧ Below wA1.heap.size wA1 wA1 := ⟨bwA1, zwA1⟩
      refine held_mono (S' := fun W => Below w9.heap.size w9 W ∧ Below wA1.heap.size wA1 W) (fun W hW => ⟨hW.1, hC.trans (hW.2.mono hC.size)⟩) _ _ _ _ ?_
      clear hC
      refine wpAnyH_take (i := 16) (v := ?_) rfl (by kernel_rfl) (by kernel_rfl) (by kernel_rfl) (fun _ _ _ h => h) (Or.inl ⟨by rfl, ?_⟩) (by assumption) ?_
      rotate_left
      · intro W0 hSw; obtain ⟨hSa, hSb⟩ := hSw; go_simp; all_goals (with_reducible rfl)
      try simp only [Act.put, List.getElem_toArray, List.getElem_cons_succ, List.getElem_cons_zero, List.setIfInBounds_toArray, List.set_cons_zero, List.set_cons_succ]
      refine wpAnyH_take (i := 17) (v := ?_) rfl (by kernel_rfl) (by kernel_rfl) (by kernel_rfl) (fun _ _ _ h => h) (Or.inl ⟨by rfl, ?_⟩) (by assumption) ?_
      rotate_left
      · intro W0 hSw; obtain ⟨hSa, hSb⟩ := hSw; go_simp; all_goals (with_reducible rfl)
      try simp only [Act.put, List.getElem_toArray, List.getElem_cons_succ, List.getElem_cons_zero, List.setIfInBounds_toArray, List.set_cons_zero, List.set_cons_succ]
      refine wpAnyH_take (i := 18) (v := ?_) rfl (by kernel_rfl) (by kernel_rfl) (by kernel_rfl) (fun _ _ _ h => h) (Or.inl ⟨by rfl, ?_⟩) (by assumption) ?_
      rotate_left
      · intro W0 hSw; obtain ⟨hSa, hSb⟩ := hSw; go_simp; all_goals (with_reducible rfl)
      try simp only [Act.put, List.getElem_toArray, List.getElem_cons_succ, List.getElem_cons_zero, List.setIfInBounds_toArray, List.set_cons_zero, List.set_cons_succ]
      refine wpAnyH_take (i := 19) (v := ?_) rfl (by kernel_rfl) (by kernel_rfl) (by kernel_rfl) (fun _ _ _ h => h) (Or.inl ⟨by rfl, ?_⟩) (by assumption) ?_
      rotate_left
      · intro W0 hSw; obtain ⟨hSa, hSb⟩ := hSw; go_simp; all_goals (with_reducible rfl)
      try simp only [Act.put, List.getElem_toArray, List.getElem_cons_succ, List.getElem_cons_zero, List.setIfInBounds_toArray, List.set_cons_zero, List.set_cons_succ]
      refine wpAnyH_take (i := 20) (v := ?_) rfl (by kernel_rfl) (by kernel_rfl) (by kernel_rfl) (fun _ _ _ h => h) (Or.inl ⟨by rfl, ?_⟩) (by assumption) ?_
      rotate_left
      · intro W0 hSw; obtain ⟨hSa, hSb⟩ := hSw; go_simp; all_goals (with_reducible rfl)
      try simp only [Act.put, List.getElem_toArray, List.getElem_cons_succ, List.getElem_cons_zero, List.setIfInBounds_toArray, List.set_cons_zero, List.set_cons_succ]
      refine wpAnyH_take (i := 21) (v := ?_) rfl (by kernel_rfl) (by kernel_rfl) (by kernel_rfl) (fun _ _ _ h => h) (Or.inl ⟨by rfl, ?_⟩) (by assumption) ?_
      rotate_left
      · intro W0 hSw; obtain ⟨hSa, hSb⟩ := hSw; go_simp; all_goals (with_reducible rfl)
      try simp only [Act.put, List.getElem_toArray, List.getElem_cons_succ, List.getElem_cons_zero, List.setIfInBounds_toArray, List.set_cons_zero, List.set_cons_succ]
      refine wpAnyH_take (i := 22) (v := ?_) rfl (by kernel_rfl) (by kernel_rfl) (by kernel_rfl) (fun _ _ _ h => h) (Or.inl ⟨by rfl, ?_⟩) (by assumption) ?_
      rotate_left
      · intro W0 hSw; obtain ⟨hSa, hSb⟩ := hSw; go_simp; all_goals (with_reducible rfl)
      try simp only [Act.put, List.getElem_toArray, List.getElem_cons_succ, List.getElem_cons_zero, List.setIfInBounds_toArray, List.set_cons_zero, List.set_cons_succ]
      refine wpAnyH_take (i := 23) (v := ?_) rfl (by kernel_rfl) (by kernel_rfl) (by kernel_rfl) (fun _ _ _ h => h) (Or.inl ⟨by rfl, ?_⟩) (by assumption) ?_
      rotate_left
      · intro W0 hSw; obtain ⟨hSa, hSb⟩ := hSw; go_simp; all_goals (with_reducible rfl)
      try simp only [Act.put, List.getElem_toArray, List.getElem_cons_succ, List.getElem_cons_zero, List.setIfInBounds_toArray, List.set_cons_zero, List.set_cons_succ]
      refine wpAnyH_take (i := 24) (v := ?_) rfl (by kernel_rfl) (by kernel_rfl) (by kernel_rfl) (fun _ _ _ h => h) (Or.inl ⟨by rfl, ?_⟩) (by assumption) ?_
      rotate_left
      · intro W0 hSw; obtain ⟨hSa, hSb⟩ := hSw; go_simp; all_goals (with_reducible rfl)
      try simp only [Act.put, List.getElem_toArray, List.getElem_cons_succ, List.getElem_cons_zero, List.setIfInBounds_toArray, List.set_cons_zero, List.set_cons_succ]
      refine wpAnyH_ready (rs := [25]) (by kernel_rfl) (by simp) ?_
      refine AllReadyH.cons rfl (fun K hK => ?_) AllReadyH.nil
      go_simp
      go_wp2_with (go_at_call 15; (refine (A3.out _ hHeld.1).mono ?_); rintro e wA2 ⟨rfl, bwA2, ywA2, zwA2⟩)
      have hC := hHeld.2.trans (ywA2.mono hHeld.2.size)
      refine hK.out _ _ ?_ (fun hHeld2 => ?_)
      · exact ⟨bwA2, hC⟩
      clear hK K hHeld hHeld2
      have hHeld : Below w9.heap.size w9 wA2 ∧ Below wA2.heap.size wA2 wA2 := ⟨bwA2, zwA2⟩
      refine held_mono (S' := fun W => Below w9.heap.size w9 W ∧ Below wA2.heap.size wA2 W) (fun W hW => ⟨hW.1, hC.trans (hW.2.mono hC.size)⟩) _ _ _ _ ?_
      clear hC
      refine wpAnyH_ready (rs := [26]) (by kernel_rfl) (by simp) ?_
      refine AllReadyH.cons rfl (fun K hK => ?_) AllReadyH.nil
      go_simp
      go_wp2_with (go_at_call 12; (refine (A4.out _ hHeld.1).mono ?_); rintro e wA3 ⟨pwA3, cwA3, rfl, vwA3, bwA3, ywA3, zwA3⟩)
      have hC := hHeld.2.trans (ywA3.mono hHeld.2.size)
      refine hK.out _ _ ?_ (fun hHeld2 => ?_)
      · exact ⟨bwA3, hC⟩
      clear hK K hHeld hHeld2
      have hHeld : Below w9.heap.size w9 wA3 ∧ Below wA3.heap.size wA3 wA3 := ⟨bwA3, zwA3⟩
      refine held_mono (S' := fun W => Below w9.heap.size w9 W ∧ Below wA3.heap.size wA3 W) (fun W hW => ⟨hW.1, hC.trans (hW.2.mono hC.size)⟩) _ _ _ _ ?_
      clear hC
      refine wpAnyH_take (i := 27) (v := ?_) rfl (by kernel_rfl) (by kernel_rfl) (by kernel_rfl) (fun _ _ _ h => h) (Or.inl ⟨by rfl, ?_⟩) (by assumption) ?_
      rotate_left
      · intro W0 hSw; obtain ⟨hSa, hSb⟩ := hSw; go_simp; all_goals (with_reducible rfl)
      try simp only [Act.put, List.getElem_toArray, List.getElem_cons_succ, List.getElem_cons_zero, List.setIfInBounds_toArray, List.set_cons_zero, List.set_cons_succ]
      refine wpAnyH_take (i := 28) (v := ?_) rfl (by kernel_rfl) (by kernel_rfl) (by kernel_rfl) (fun _ _ _ h => h) (Or.inl ⟨by rfl, ?_⟩) (by assumption) ?_
      rotate_left
      · intro W0 hSw; obtain ⟨hSa, hSb⟩ := hSw; go_simp; all_goals (with_reducible rfl)
      try simp only [Act.put, List.getElem_toArray, List.getElem_cons_succ, List.getElem_cons_zero, List.setIfInBounds_toArray, List.set_cons_zero, List.set_cons_succ]
      refine wpAnyH_take (i := 29) (v := ?_) rfl (by kernel_rfl) (by kernel_rfl) (by kernel_rfl) (fun _ _ _ h => h) (Or.inl ⟨by rfl, ?_⟩) (by assumption) ?_
      rotate_left
      · intro W0 hSw; obtain ⟨hSa, hSb⟩ := hSw; go_simp; all_goals (with_reducible rfl)
      try simp only [Act.put, List.getElem_toArray, List.getElem_cons_succ, List.getElem_cons_zero, List.setIfInBounds_toArray, List.set_cons_zero, List.set_cons_succ]
      refine wpAnyH_take (i := 30) (v := ?_) rfl (by kernel_rfl) (by kernel_rfl) (by kernel_rfl) (fun _ _ _ h => h) (Or.inl ⟨by rfl, ?_⟩) (by assumption) ?_
      rotate_left
      · intro W0 hSw; obtain ⟨hSa, hSb⟩ := hSw; go_simp; all_goals (with_reducible rfl)
      try simp only [Act.put, List.getElem_toArray, List.getElem_cons_succ, List.getElem_cons_zero, List.setIfInBounds_toArray, List.set_cons_zero, List.set_cons_succ]
      refine wpAnyH_take (i := 31) (v := ?_) rfl (by kernel_rfl) (by kernel_rfl) (by kernel_rfl) (fun _ _ _ h => h) (Or.inl ⟨by rfl, ?_⟩) (by assumption) ?_
      rotate_left
      · intro W0 hSw; obtain ⟨hSa, hSb⟩ := hSw; go_simp; all_goals (with_reducible rfl)
      try simp only [Act.put, List.getElem_toArray, List.getElem_cons_succ, List.getElem_cons_zero, List.setIfInBounds_toArray, List.set_cons_zero, List.set_cons_succ]
      refine wpAnyH_take (i := 32) (v := ?_) rfl (by kernel_rfl) (by kernel_rfl) (by kernel_rfl) (fun _ _ _ h => h) (Or.inl ⟨by rfl, ?_⟩) (by assumption) ?_
      rotate_left
      · intro W0 hSw; obtain ⟨hSa, hSb⟩ := hSw; go_simp; all_goals (with_reducible rfl)
      try simp only [Act.put, List.getElem_toArray, List.getElem_cons_succ, List.getElem_cons_zero, List.setIfInBounds_toArray, List.set_cons_zero, List.set_cons_succ]
      refine wpAnyH_take (i := 33) (v := ?_) rfl (by kernel_rfl) (by kernel_rfl) (by kernel_rfl) (fun _ _ _ h => h) (Or.inl ⟨by rfl, ?_⟩) (by assumption) ?_
      rotate_left
      · intro W0 hSw; obtain ⟨hSa, hSb⟩ := hSw; go_simp; all_goals (with_reducible rfl)
      try simp only [Act.put, List.getElem_toArray, List.getElem_cons_succ, List.getElem_cons_zero, List.setIfInBounds_toArray, List.set_cons_zero, List.set_cons_succ]
      refine wpAnyH_take (i := 34) (v := ?_) rfl (by kernel_rfl) (by kernel_rfl) (by kernel_rfl) (fun _ _ _ h => h) (Or.inl ⟨by rfl, ?_⟩) (by assumption) ?_
      rotate_left
      · intro W0 hSw; obtain ⟨hSa, hSb⟩ := hSw; go_simp; all_goals (with_reducible rfl)
      try simp only [Act.put, List.getElem_toArray, List.getElem_cons_succ, List.getElem_cons_zero, List.setIfInBounds_toArray, List.set_cons_zero, List.set_cons_succ]
      refine wpAnyH_take (i := 35) (v := ?_) rfl (by kernel_rfl) (by kernel_rfl) (by kernel_rfl) (fun _ _ _ h => h) (Or.inl ⟨by rfl, ?_⟩) (by assumption) ?_
      rotate_left
      · intro W0 hSw; obtain ⟨hSa, hSb⟩ := hSw; go_simp; all_goals (with_reducible rfl)
      try simp only [Act.put, List.getElem_toArray, List.getElem_cons_succ, List.getElem_cons_zero, List.setIfInBounds_toArray, List.set_cons_zero, List.set_cons_succ]
      refine wpAnyH_done (by kernel_rfl) ?_ _
      go_wp2_with fail
      go_ret
      exact ⟨rfl, HB.out.trans (hHeld.1.mono HB.out.size)⟩

end Go.Proofs.YtjikppjlkicgpaaDoor.hashesNames
