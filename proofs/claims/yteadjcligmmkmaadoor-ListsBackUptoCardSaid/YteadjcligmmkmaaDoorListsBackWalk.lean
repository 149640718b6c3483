/-
  ListsBack: texts that are put are taken, from either end; as many are counted as were put and not taken; nothing is left then.
-/
import Derived.Test.YteadjcligmmkmaaDoorLisLaw
import Derived.Test.YteadjcligmmkmaaDoorRefBulk
import Derived.Test.YteadjcligmmkmaaDoorRefInt
import Derived.Deep.QuietTactic
import Derived.Deep.DeepCutAuto
import Derived.BigQuiet
import Derived.StillTailTactics
import Derived.Deep.RegionLaw
namespace Go.Proofs.YteadjcligmmkmaaDoor.listsBack
open Go.RowKit Kit StrT RowG BOrd ValT StoT ReplyT ReplyMath ValM BytesIn DoT Low MapT LstT LisT NumL NumW NumMath ReplyM LisM SaidT RefR DoV LisL
set_option linter.unusedVariables false
set_option maxRecDepth 100000
-- ASKS: NumL.Gd
-- UPTO


theorem ss3_at (w : World) (g : Nat) (hg : g = w.heap.size) (a b c : ByteArray) : StrT.Ss (w.alloc (.cells #[.string a, .string b, .string c] 9)) (some ⟨g, 0, none⟩) [a.data.toList, b.data.toList, c.data.toList] := by
  subst hg
  exact ss3_new w a b c
theorem push_one (M : List (List UInt8)) (j : Nat) (hj : j < M.length) (x : List UInt8) (hx : x = wd M j) : rowD 1 (M.take j) [x] = (M.take (j + 1), int ((j + 1 : Nat) : Int)) := by
  subst hx
  show (M.take j ++ [wd M j], int (((M.take j).length + [wd M j].length : Nat) : Int)) = _
  rw [List.take_succ_eq_append_getElem hj, wd_at hj, List.length_take, Nat.min_eq_left (by omega)]
  rfl
theorem pop_first (M : List (List UInt8)) (f t : Nat) (ht : t ≤ M.length) (hf : f < t) (y : List UInt8) (hy : y = wd M f) : rowD 2 ((M.take t).drop f) [] = ((M.take t).drop (f + 1), bulk y) := by
  subst hy
  have hl : 0 < ((M.take t).drop f).length := by rw [List.length_drop, List.length_take]; omega
  show (((M.take t).drop f).drop 1, popR ((M.take t).drop f) 0) = _
  rw [List.drop_drop]
  unfold popR
  rw [if_neg (by intro e; rw [e] at hl; simp at hl), wd_at hl, wd_at (show f < M.length by omega)]
  simp
theorem pop_last (M : List (List UInt8)) (f t : Nat) (ht : t ≤ M.length) (hf : f < t) (y : List UInt8) (hy : y = wd M (t - 1)) : rowD 3 ((M.take t).drop f) [] = ((M.take (t - 1)).drop f, bulk y) := by
  subst hy
  have hl : 0 < ((M.take t).drop f).length := by rw [List.length_drop, List.length_take]; omega
  show (((M.take t).drop f).take (((M.take t).drop f).length - 1), popR ((M.take t).drop f) (((M.take t).drop f).length - 1)) = _
  rw [take_drop_one M f t ht hf]
  unfold popR
  rw [if_neg (by intro e; rw [e] at hl; simp at hl), wd_at (by omega), wd_at (show t - 1 < M.length by omega)]
  simp only [List.getElem_drop, List.getElem_take, List.length_drop, List.length_take]
  congr 2
  congr 1
  omega
theorem count_of (M : List (List UInt8)) (f t : Nat) (ht : t ≤ M.length) (hf : f ≤ t) : rowD 4 ((M.take t).drop f) [] = ((M.take t).drop f, int ((t : Int) - (f : Int))) := by
  show ((M.take t).drop f, int (((M.take t).drop f).length : Int)) = _
  rw [List.length_drop, List.length_take, Nat.min_eq_left ht, show ((t - f : Nat) : Int) = (t : Int) - (f : Int) by omega]
/-- What is taken next, and from which end. -/
structure Way (M : List (List UInt8)) (f t f2 t2 i : Nat) (nm y : ByteArray) : Prop where
  i6 : i < 6
  nd : needD i ≤ 2
  nn : lowL nm.data.toList = nameD i
  nz : nm.size ≤ 140737488351232
  le : f2 ≤ t2
  tm : t2 ≤ M.length
  up : (t2 - f2) + 1 = t - f
  at_ : rowD i ((M.take t).drop f) [] = ((M.take t2).drop f2, bulk y.data.toList)
  tame : (∀ s ∈ M, s.length ≤ 1048576) → Tame i ((M.take t).drop f) []
  ys : y.size ≤ 1048576
theorem tame_pop (M : List (List UInt8)) (f t : Nat) (h : ∀ s ∈ M, s.length ≤ 1048576) : ∀ s ∈ (M.take t).drop f, s.length ≤ 1048576 := fun s hs => h s (List.mem_of_mem_take (List.mem_of_mem_drop hs))
theorem way_first (M : List (List UInt8)) (f t : Nat) (ht : t ≤ M.length) (hf : f < t) (y : ByteArray) (hy : y.data.toList = wd M f) (hz : ∀ s ∈ M, s.length ≤ 1048576) : Way M f t (f + 1) t 2 ⟨#[108, 112, 111, 112]⟩ y :=
  ⟨by decide, by decide, by decide, by decide, hf, ht, by omega, pop_first M f t ht hf _ hy, fun h => tame2 (tame_pop M f t h), by rw [← str_len, hy, wd_at (show f < M.length by omega)]; exact hz _ (List.getElem_mem _)⟩
theorem way_last (M : List (List UInt8)) (f t : Nat) (ht : t ≤ M.length) (hf : f < t) (y : ByteArray) (hy : y.data.toList = wd M (t - 1)) (hz : ∀ s ∈ M, s.length ≤ 1048576) : Way M f t f (t - 1) 3 ⟨#[114, 112, 111, 112]⟩ y :=
  ⟨by decide, by decide, by decide, by decide, by omega, by omega, by omega, pop_last M f t ht hf _ hy, fun h => tame3 (tame_pop M f t h), by rw [← str_len, hy, wd_at (show t - 1 < M.length by omega)]; exact hz _ (List.getElem_mem _)⟩

set_option maxHeartbeats 16000000 in
theorem walk (q : Option Addr) (L : List (List UInt8)) (n c : Nat) (en : Int) (w : World) (hL : L.length = n) (h : StrT.Ss w q L) (hz : ∀ s ∈ L, s.length ≤ 140737488351232) (hcap : n ≤ c) (hcm : c ≤ 9223372036854775807) (hnil : q = none → c = 0) (hup : L.flatten.length + L.length ≤ 1048576) (e0 : 0 ≤ en) (e1 : en ≤ 65535) (hg : Gd w) :
    Calls Tryd.prog 4 #[.slice q n c, .int .u16 en] w fun e w' => e = .returned (.bool true) ∧ Below w.heap.size w w' := by
  have HG := Lib.hid (fun W (h : Below w.heap.size w W) => hg.keep h)
  have C0 := Lib.hid (shown_any w hg)
  obtain ⟨m, hm⟩ : ∃ m : Nat, m = min n 12 := ⟨_, rfl⟩
  have hm12 : m ≤ 12 := by omega
  have HM0 := Lib.hid (show SR w q m c (L.take m) from ⟨by rw [List.length_take, hL]; omega, by omega, hcm, hnil, h.take m⟩)
  have HFl := Lib.hid (show (L.take m).flatten.length ≤ 1048576 by have := flat_part L 0 m; rw [List.drop_zero] at this; omega)
  have hnz : (n : Int) ≤ 9223372036854775807 := by omega
  have sl12 : ∀ W, (Instr.slice 22 (.slice q n c) none (some (.int .i64 12)) none).run Tryd.prog W = .ok (.slice q 12 c) W ∨ ¬ 12 ≤ c := fun W => by
    by_cases h : 12 ≤ c
    · exact Or.inl (sl_take q n c 12 h W)
    · exact Or.inr h
  have hmw : (12 < n ∧ m = 12) ∨ (n ≤ 12 ∧ m = n) := by omega
  clear h hz hg hL hup hcm
  generalize L.take m = M at HM0 HFl
  have HLn := Lib.hid HM0.out.ln
  have HTm := Lib.hid (fun s (hs : s ∈ M) => Nat.le_trans (mem_flat' M s hs) HFl.out)
  clear hnil hm
  go_enter Tryd.func4, Tryd.ntmps4
  go_wp2_with fail
  with_reducible refine C0.out.mono ?_
  rintro e w1 ⟨rfl, hb1⟩
  have HB1 := Lib.hid hb1
  have HS1 := Lib.hid (HM0.out.keep hb1)
  clear hb1 C0 HM0
  go_upto_if 24 with fail
  go_cut [0] (fun v wx => v = .slice q m c ∧ w1 = wx)
  case first =>
    rcases hmw with ⟨h1, h2⟩ | ⟨h1, h2⟩
    · have tb : decide ((12 : Int) < (n : Int)) = true := decide_eq_true (by omega)
      have sl : ∀ W, (Instr.slice 22 (.slice q n c) none (some (.int .i64 12)) none).run Tryd.prog W = .ok (.slice q 12 c) W := fun W => (sl12 W).resolve_right (by omega)
      subst h2
      clear sl12
      go_wp2_with fail
      go_meet
      exact ⟨rfl, rfl⟩
    · have tb : decide ((12 : Int) < (n : Int)) = false := decide_eq_false (by omega)
      subst h2
      clear sl12
      go_wp2_with fail
      go_meet
      exact ⟨rfl, rfl⟩
  case rest =>
  obtain ⟨rfl, rfl⟩ := hcut
  clear hmw sl12 hnz hcap
  rename World => w1
  have HV := Lib.hid (VB.new (pv0_in w1))
  dsimp only [pv0] at HV
  have HBx := Lib.hid (Kit.below1 w1 (.cells #[.int .u8 0, .string ⟨#[]⟩, .slice none 0 0, .slice none 0 0, .slice none 0 0] 26))
  go_wp2_with fail
  generalize hg6 : w1.heap.size = g6 at HV ⊢
  have HG6 := Lib.hid (show w1.heap.size ≤ g6 by omega)
  clear hg6
  generalize w1.alloc (.cells #[.int .u8 0, .string ⟨#[]⟩, .slice none 0 0, .slice none 0 0, .slice none 0 0] 26) = w2 at HV HBx ⊢
  go_loopw [7] (fun i wr => ∃ (j : Nat) (p : PV), j ≤ m ∧ i = .int .i64 (j : Int) ∧ Hid (p.d = listV (M.take j)) ∧ Hid (VB wr g6 p) ∧ Hid (Below w1.heap.size w1 wr)) (fun i _ => m - (intOf i).toNat)
  case atStart => exact ⟨0, pv0, Nat.zero_le _, rfl, Lib.hid rfl, HV, HBx⟩
  case round =>
    clear HV HBx
    obtain ⟨j, p, hj, rfl, HD, HV, HBx⟩ := hrel
    obtain ⟨k0, S0, ql0, nl0, cl0, qh0, nh0, ch0, qz0, nz0, cz0, d0⟩ := p
    have HB := Lib.hid (HB1.out.trans (HBx.out.mono HB1.out.size))
    by_cases hlt : j < m
    · have t1 : decide ((j : Int) < (m : Int)) = true := decide_eq_true (by omega)
      have hj0 : (0 : Int) ≤ (j : Int) := by omega
      have hjn : (j : Int) < (m : Int) := by omega
      obtain ⟨X, hX⟩ := str_ex (wd M j)
      obtain ⟨b, off, rfl, hbl, hc⟩ := SR.at_ (HS1.out.keep HBx.out) j hlt X hX
      have HX := Lib.hid hX
      have HC := Lib.hid hc
      obtain ⟨NI, HNI⟩ : ∃ NR, Hid ((int ((j + 1 : Nat) : Int)).length = NR) := ⟨_, Lib.hid rfl⟩
      obtain ⟨XI, HXI⟩ : ∃ XR : ByteArray, Hid (XR.data.toList = int ((j + 1 : Nat) : Int)) := ⟨⟨(int ((j + 1 : Nat) : Int)).toArray⟩, Lib.hid rfl⟩
      clear hX hbl hc
      go_upto_region 8 with fail
      have CD := Lib.hid (fun (Y : World) (g : Nat) (hB : Below w.heap.size w Y) (hpv : PV.In Y ⟨k0, S0, ql0, nl0, cl0, qh0, nh0, ch0, qz0, nz0, cz0, d0⟩) (hss : StrT.Ss Y (some ⟨g, 0, none⟩) [(⟨#[114, 112, 117, 115, 104]⟩ : ByteArray).data.toList, (⟨#[107]⟩ : ByteArray).data.toList, (X : ByteArray).data.toList]) => (show Calls Tryd.prog 12 #[.agg #[.int .u8 k0, .string S0, .slice ql0 nl0 cl0, .slice qh0 nh0 ch0, .slice qz0 nz0 cz0], .slice (some ⟨g, 0, none⟩) 3 3] Y (DoN (listV (M.take (j + 1))) (int ((j + 1 : Nat) : Int)) Y) from don_to (push_one M j (by rw [HLn.out]; exact hlt) _ HX.out) (onR 1 (by decide) ⟨k0, S0, ql0, nl0, cl0, qh0, nh0, ch0, qz0, nz0, cz0, d0⟩ (M.take j) ⟨#[114, 112, 117, 115, 104]⟩ ⟨#[107]⟩ [(X : ByteArray).data.toList] (some ⟨g, 0, none⟩) 3 3 Y hpv HD.out (HG.out Y hB) rfl (Nat.le_refl _) (by decide) hss (by decide) (by decide) (tame1 (by rw [List.length_take]; simp; omega)))))
      go_cut [8, 9] (fun s8 s9 wx => ∃ (g : Nat) (p9 : PV) (qr : Option Addr) (cr : Nat), s8 = .pointer (some ⟨g, 0, none⟩) ∧ s9 = .slice qr NI cr ∧ Hid (p9.d = listV (M.take (j + 1))) ∧ Hid (VB wx g p9) ∧ Hid (∀ k, p9.at_ k → wr.heap.size ≤ k) ∧ Hid (Below wr.heap.size wr wx) ∧ Hid (∀ W, Below wx.heap.size wx W → (convert 29 9 (.slice qr NI cr)).run Tryd.prog W = .ok (.string XI) W))
      case first =>
        have hd0 : Below wr.heap.size wr wr.drew := (Below.refl _ _).drew
        have hd1 := Kit.below1 wr (.cells #[.int .u8 0, .string ⟨#[]⟩, .slice none 0 0, .slice none 0 0, .slice none 0 0] 26)
        have hu0 := HC.out _ (Below.refl wr.heap.size wr)
        have hu1 := HC.out _ hd1
        clear hd0 hd1
        have hr0 : VB _ g6 ⟨k0, S0, ql0, nl0, cl0, qh0, nh0, ch0, qz0, nz0, cz0, d0⟩ := HV.out
        obtain ⟨-, -, r00, r01, r02, r03, r04⟩ := hr0.room
        dsimp only at r00 r01 r02 r03 r04
        clear hr0
        have hr1 : VB _ g6 ⟨k0, S0, ql0, nl0, cl0, qh0, nh0, ch0, qz0, nz0, cz0, d0⟩ := HV.out.keep (Kit.below1 _ (.cells #[.int .u8 0, .string ⟨#[]⟩, .slice none 0 0, .slice none 0 0, .slice none 0 0] 26))
        obtain ⟨-, -, r10, r11, r12, r13, r14⟩ := hr1.room
        dsimp only at r10 r11 r12 r13 r14
        clear hr1
        have hr2 : VB _ g6 ⟨k0, S0, ql0, nl0, cl0, qh0, nh0, ch0, qz0, nz0, cz0, d0⟩ := HV.out.keep (Kit.below1 _ (.cells #[.string ⟨#[114, 112, 117, 115, 104]⟩, .string ⟨#[107]⟩, .string X] 9))
        obtain ⟨-, -, r20, r21, r22, r23, r24⟩ := hr2.room
        dsimp only at r20 r21 r22 r23 r24
        clear hr2
        have hr3 : VB _ g6 ⟨k0, S0, ql0, nl0, cl0, qh0, nh0, ch0, qz0, nz0, cz0, d0⟩ := (HV.out.keep (Kit.below1 _ (.cells #[.int .u8 0, .string ⟨#[]⟩, .slice none 0 0, .slice none 0 0, .slice none 0 0] 26))).keep (Kit.below1 _ (.cells #[.string ⟨#[114, 112, 117, 115, 104]⟩, .string ⟨#[107]⟩, .string X] 9))
        obtain ⟨-, -, r30, r31, r32, r33, r34⟩ := hr3.room
        dsimp only at r30 r31 r32 r33 r34
        clear hr3
        have hr4 : VB _ g6 ⟨k0, S0, ql0, nl0, cl0, qh0, nh0, ch0, qz0, nz0, cz0, d0⟩ := (HV.out.keep (Kit.below1 _ (.cells #[.string ⟨#[114, 112, 117, 115, 104]⟩, .string ⟨#[107]⟩, .string X] 9))).keep (Kit.below1 _ (.cells #[.int .u8 0, .string ⟨#[]⟩, .slice none 0 0, .slice none 0 0, .slice none 0 0] 26))
        obtain ⟨-, -, r40, r41, r42, r43, r44⟩ := hr4.room
        dsimp only at r40 r41 r42 r43 r44
        clear hr4
        have hY : ∀ Y, (Y = wr.alloc (.cells #[.string ⟨#[114, 112, 117, 115, 104]⟩, .string ⟨#[107]⟩, .string X] 9) ∨ Y = (wr.alloc (.cells #[.int .u8 0, .string ⟨#[]⟩, .slice none 0 0, .slice none 0 0, .slice none 0 0] 26)).alloc (.cells #[.string ⟨#[114, 112, 117, 115, 104]⟩, .string ⟨#[107]⟩, .string X] 9) ∨ Y = (wr.alloc (.cells #[.string ⟨#[114, 112, 117, 115, 104]⟩, .string ⟨#[107]⟩, .string X] 9)).alloc (.cells #[.int .u8 0, .string ⟨#[]⟩, .slice none 0 0, .slice none 0 0, .slice none 0 0] 26)) → Below wr.heap.size wr Y := fun Y h => by rcases h with rfl | rfl | rfl; exact (Kit.below1 wr (.cells #[.string ⟨#[114, 112, 117, 115, 104]⟩, .string ⟨#[107]⟩, .string X] 9)); exact ((Kit.below1 wr (.cells #[.int .u8 0, .string ⟨#[]⟩, .slice none 0 0, .slice none 0 0, .slice none 0 0] 26)).trans ((Kit.below1 _ (.cells #[.string ⟨#[114, 112, 117, 115, 104]⟩, .string ⟨#[107]⟩, .string X] 9)).mono (Below.size (Kit.below1 _ _)))); exact ((Kit.below1 wr (.cells #[.string ⟨#[114, 112, 117, 115, 104]⟩, .string ⟨#[107]⟩, .string X] 9)).trans ((Kit.below1 _ (.cells #[.int .u8 0, .string ⟨#[]⟩, .slice none 0 0, .slice none 0 0, .slice none 0 0] 26)).mono (Below.size (Kit.below1 _ _))))
        have HY := Lib.hid hY
        clear hY
        go_region_law (first
          | (go_simp; (with_reducible refine (CD.out _ _ (by first | exact HB.out.trans (Below.mono (HY.out _ (by first | exact Or.inl rfl | exact Or.inr (Or.inl rfl) | exact Or.inr (Or.inr rfl))) HB.out.size) | exact (HB.out.trans (Below.mono (HY.out _ (by first | exact Or.inl rfl | exact Or.inr (Or.inl rfl) | exact Or.inr (Or.inr rfl))) HB.out.size)).drew) (by first | exact (HV.out.keep (HY.out _ (by first | exact Or.inl rfl | exact Or.inr (Or.inl rfl) | exact Or.inr (Or.inr rfl)))).pv | exact (HV.out.keep ((HY.out _ (by first | exact Or.inl rfl | exact Or.inr (Or.inl rfl) | exact Or.inr (Or.inr rfl)))).drew).pv) (by first | exact ss3_at wr _ rfl ⟨#[114, 112, 117, 115, 104]⟩ ⟨#[107]⟩ X | exact ss3_at _ _ (by simp) ⟨#[114, 112, 117, 115, 104]⟩ ⟨#[107]⟩ X | exact StrT.Ss.keep (ss3_at wr _ rfl ⟨#[114, 112, 117, 115, 104]⟩ ⟨#[107]⟩ X) (Kit.below1 _ _) | exact StrT.Ss.keep (ss3_at wr _ rfl ⟨#[114, 112, 117, 115, 104]⟩ ⟨#[107]⟩ X) (Below.refl _ _).drew | exact StrT.Ss.keep (ss3_at _ _ (by simp) ⟨#[114, 112, 117, 115, 104]⟩ ⟨#[107]⟩ X) (Below.refl _ _).drew | exact StrT.Ss.keep (StrT.Ss.keep (ss3_at wr _ rfl ⟨#[114, 112, 117, 115, 104]⟩ ⟨#[107]⟩ X) (Kit.below1 _ _)) (Below.refl _ _).drew)).mono ?_); rintro e wq5 ⟨p9, vr, rfl, hI, hd, hn, hA, hb5⟩; dsimp only [PV.agg]
             obtain ⟨k9, S9, ql9, nl9, cl9, qh9, nh9, ch9, qz9, nz9, cz9, d9⟩ := p9
             dsimp only
             obtain ⟨q9, c9, rfl, -⟩ := ans_text hA NI HNI.out XI HXI.out
             have hb5' : Below wr.heap.size wr wq5 := by first | exact c_al (c_al hb5) | exact c_al hb5 | exact c_al (c_dr hb5) | exact c_al (c_al (c_dr hb5))
             have HW5 := Lib.hid hb5'
             have HL5 := Lib.hid hb5'.size
             have HE9 := Lib.hid (show PV.d ⟨k9, S9, ql9, nl9, cl9, qh9, nh9, ch9, qz9, nz9, cz9, d9⟩ = _ from hd)
             have HF9 := Lib.hid (show ∀ k, PV.at_ ⟨k9, S9, ql9, nl9, cl9, qh9, nh9, ch9, qz9, nz9, cz9, d9⟩ k → wr.heap.size ≤ k from fun k hk => Nat.le_trans (by simp; try omega) (hn k hk))
             first
               | (have hzc : VZ wq5 wr.heap.size := by first | exact vz_al (c_al hb5) | exact vz_al (c_al (c_dr hb5))
                  have HGt := Lib.hid (gov_five (w := wr) hzc hI (fun j hj => by have h1 := hn j hj; first | omega | (simp at h1; omega)) (Nat.le_refl _) HW5.out hA (by first | (simp; done) | (simp; omega)))
                  obtain ⟨⟨z0, z1, z2, z3, z4⟩, y0, y1, y2, y3, y4⟩ := vz_facts hzc
                  clear hzc)
               | (have hzc : VZ wq5 (wr.alloc (.cells #[.string ⟨#[114, 112, 117, 115, 104]⟩, .string ⟨#[107]⟩, .string X] 9)).heap.size := by first | exact vz_al hb5 | exact vz_al (c_dr hb5)
                  rw [show (wr.alloc (.cells #[.string ⟨#[114, 112, 117, 115, 104]⟩, .string ⟨#[107]⟩, .string X] 9)).heap.size = wr.heap.size + 1 by simp] at hzc
                  have HGt := Lib.hid (gov_five (w := wr) hzc hI (fun j hj => by have h1 := hn j hj; first | omega | (simp at h1; omega)) (Nat.le_succ _) HW5.out hA (by first | (simp; done) | (simp; omega)))
                  obtain ⟨⟨z0, z1, z2, z3, z4⟩, y0, y1, y2, y3, y4⟩ := vz_facts hzc
                  clear hzc)
               | (have HGt := Lib.hid (gov_new (w := wr) hI HW5.out hA))
             clear hI hd hn hA hb5 hb5'))
        all_goals
          go_wp2_with fail
          go_meet
          exact ⟨_, ⟨k9, S9, ql9, nl9, cl9, qh9, nh9, ch9, qz9, nz9, cz9, d9⟩, _, _, rfl, rfl, HE9, Lib.hid HGt.out.v, HF9, Lib.hid HGt.out.b, Lib.hid (ans_at HGt.out.a XI HXI.out)⟩
      case rest =>
      obtain ⟨g8, p9, q9, c9, rfl, rfl, HE9, HV9, HF9, hbn, hc9⟩ := hcut
      obtain ⟨k9, S9, ql9, nl9, cl9, qh9, nh9, ch9, qz9, nz9, cz9, d9⟩ := p9
      rename World => w5
      have HVl := Lib.hid HV.out.lt
      have HV5 := Lib.hid (HV.out.keep hbn.out)
      have HB5 := Lib.hid (HBx.out.trans (hbn.out.mono HBx.out.size))
      have hc9 := hc9.out
      clear CD hbn HV HBx
      go_upto_region 9 with fail
      go_cut [50] (fun v wx => v = .bool false ∧ Hid (Below w5.heap.size w5 wx))
      case first =>
        have hw1 : -4096 ≤ (j : Int) + 1 ∧ (j : Int) + 1 ≤ 4096 := by omega
        have A1 := Lib.hid (fun W (h : Below w5.heap.size w5 W) => (show Calls Tryd.prog 13 #[.int .i64 ((j : Int) + 1)] W (Said w5 W NI XI) from (rint ((j : Int) + 1) W (by omega) (by omega)).mono (fun e w' hh => said_of (hh.of (by rw [Int.natCast_add]; rfl)) h NI HNI.out XI HXI.out)))
        obtain ⟨wa, wb⟩ := num_in (z := (j : Int) + 1) hw1
        clear hw1
        refine wp_region_held_drew (S := fun W => Below w5.heap.size w5 W ∧ Below w5.heap.size w5 W) (by kernel_rfl) ?_ (fun hHeld => ?_)
        · exact ⟨(Below.refl _ _).drew, (Below.refl _ _).drew⟩
        refine wpAnyH_take (i := 0) (v := ?_) rfl (by kernel_rfl) (by kernel_rfl) (by kernel_rfl) (fun _ _ _ h => h) (Or.inl ⟨by rfl, ?_⟩) (by assumption) ?_
        rotate_left
        · intro W0 hSw; obtain ⟨hSa, hSb⟩ := hSw; go_simp; all_goals (with_reducible rfl)
        try simp only [Act.put, List.getElem_toArray, List.getElem_cons_zero, List.setIfInBounds_toArray, List.set_cons_zero, List.set_cons_succ]
        refine wpAnyH_take (i := 1) (v := ?_) rfl (by kernel_rfl) (by kernel_rfl) (by kernel_rfl) (fun _ _ _ h => h) (Or.inl ⟨by rfl, ?_⟩) (by assumption) ?_
        rotate_left
        · intro W0 hSw; obtain ⟨hSa, hSb⟩ := hSw; go_simp; all_goals (with_reducible rfl)
        try simp only [Act.put, List.getElem_toArray, List.getElem_cons_succ, List.getElem_cons_zero, List.setIfInBounds_toArray, List.set_cons_zero, List.set_cons_succ]
        refine wpAnyH_take (i := 2) (v := ?_) rfl (by kernel_rfl) (by kernel_rfl) (by kernel_rfl) (fun _ _ _ h => h) (Or.inl ⟨by rfl, ?_⟩) (by assumption) ?_
        rotate_left
        · intro W0 hSw; obtain ⟨hSa, hSb⟩ := hSw; go_simp; all_goals (with_reducible rfl)
        try simp only [Act.put, List.getElem_toArray, List.getElem_cons_succ, List.getElem_cons_zero, List.setIfInBounds_toArray, List.set_cons_zero, List.set_cons_succ]
        refine wpAnyH_take (i := 3) (v := ?_) rfl (by kernel_rfl) (by kernel_rfl) (by kernel_rfl) (fun _ _ _ h => h) (Or.inl ⟨by rfl, ?_⟩) (by assumption) ?_
        rotate_left
        · intro W0 hSw; obtain ⟨hSa, hSb⟩ := hSw; go_simp; all_goals (with_reducible rfl)
        try simp only [Act.put, List.getElem_toArray, List.getElem_cons_succ, List.getElem_cons_zero, List.setIfInBounds_toArray, List.set_cons_zero, List.set_cons_succ]
        refine wpAnyH_ready (rs := [4]) (by kernel_rfl) (by simp) ?_
        refine AllReadyH.cons rfl (fun K hK => ?_) AllReadyH.nil
        go_simp
        go_wp2_with (go_at_call 13; (refine (A1.out _ hHeld.1).mono ?_); rintro e wA0 ⟨pwA0, cwA0, rfl, vwA0, bwA0, ywA0, zwA0⟩)
        have hC := hHeld.2.trans (ywA0.mono hHeld.2.size)
        refine hK.out _ _ ?_ (fun hHeld2 => ?_)
        · exact ⟨bwA0, hC⟩
        clear hK K hHeld hHeld2
        have hHeld : Below w5.heap.size w5 wA0 ∧ Below wA0.heap.size wA0 wA0 := ⟨bwA0, zwA0⟩
        refine held_mono (S' := fun W => Below w5.heap.size w5 W ∧ Below wA0.heap.size wA0 W) (fun W hW => ⟨hW.1, hC.trans (hW.2.mono hC.size)⟩) _ _ _ _ ?_
        clear hC
        refine wpAnyH_take (i := 5) (v := ?_) rfl (by kernel_rfl) (by kernel_rfl) (by kernel_rfl) (fun _ _ _ h => h) (Or.inl ⟨by rfl, ?_⟩) (by assumption) ?_
        rotate_left
        · intro W0 hSw; obtain ⟨hSa, hSb⟩ := hSw; go_simp; all_goals (with_reducible rfl)
        try simp only [Act.put, List.getElem_toArray, List.getElem_cons_succ, List.getElem_cons_zero, List.setIfInBounds_toArray, List.set_cons_zero, List.set_cons_succ]
        refine wpAnyH_take (i := 6) (v := ?_) rfl (by kernel_rfl) (by kernel_rfl) (by kernel_rfl) (fun _ _ _ h => h) (Or.inl ⟨by rfl, ?_⟩) (by assumption) ?_
        rotate_left
        · intro W0 hSw; obtain ⟨hSa, hSb⟩ := hSw; go_simp; all_goals (with_reducible rfl)
        try simp only [Act.put, List.getElem_toArray, List.getElem_cons_succ, List.getElem_cons_zero, List.setIfInBounds_toArray, List.set_cons_zero, List.set_cons_succ]
        refine wpAnyH_done (by kernel_rfl) ?_ _
        go_wp2_with fail
        go_meet
        exact ⟨rfl, Lib.hid hHeld.1⟩
      case rest =>
      clear hc9 HNI HXI
      obtain ⟨rfl, hbn⟩ := hcut
      rename World => w6
      have HV6 := Lib.hid (HV5.out.keep hbn.out)
      have HV9 := Lib.hid (HV9.out.keep hbn.out)
      have HB6 := Lib.hid (HB5.out.trans (hbn.out.mono HB5.out.size))
      obtain ⟨-, -, ra0, ra1, ra2, ra3, ra4⟩ := HV9.out.room
      dsimp only at ra0 ra1 ra2 ra3 ra4
      have HCs := Lib.hid (show (Tryd.prog.info? 26).map (·.size) = some (#[.int .u8 k9, .string S9, .slice ql9 nl9 cl9, .slice qh9 nh9 ch9, .slice qz9 nz9 cz9] : Array Value).size from val_size)
      have HOn := Lib.hid (show (#[.int .u8 k9, .string S9, .slice ql9 nl9 cl9, .slice qh9 nh9 ch9, .slice qz9 nz9 cz9] : Array Value).all (·.oneCell') = true by simp [Value.oneCell'])
      have HV7 := Lib.hid (VB.put HV6.out HV9.out.pv (fun k hk => by have h1 := HF9.out k hk; have := HVl.out; omega))
      have HB7 := Lib.hid (below_setRow HB6.out HG6.out #[.int .u8 k9, .string S9, .slice ql9 nl9 cl9, .slice qh9 nh9 ch9, .slice qz9 nz9 cz9])
      dsimp only at HV7
      clear hbn HV5 HB5 HV9 HF9 HVl
      go_wp2_with (with_reducible refine wpList_store_row rfl 26 (.tmp 6) (.tmp 51) rfl g6 #[.int .u8 k9, .string S9, .slice ql9 nl9 cl9, .slice qh9 nh9 ch9, .slice qz9 nz9 cz9] rfl rfl 26 _ HV6.out.hp HCs.out rfl HOn.out ?_)
      go_roundw
      case rel => exact ⟨j + 1, ⟨k9, S9, ql9, nl9, cl9, qh9, nh9, ch9, qz9, nz9, cz9, d9⟩, by omega, by go_num, HE9, HV7, HB7⟩
      case measure => simp [intOf]; omega
    · obtain rfl : j = m := by omega
      have t1 : decide ((j : Int) < (j : Int)) = false := decide_eq_false (by omega)
      have HDs := Lib.hid (show PV.d ⟨k0, S0, ql0, nl0, cl0, qh0, nh0, ch0, qz0, nz0, cz0, d0⟩ = listV ((M.take j).drop 0) from HD.out)
      clear HB HD hlt hj
      go_wp2_with fail
      go_loopw [10, 11, 12] (fun sf st si wr => ∃ (f t x : Nat) (p : PV), f ≤ t ∧ t ≤ j ∧ x ≤ 12 ∧ x + (t - f) = j ∧ sf = .int .i64 (f : Int) ∧ st = .int .i64 (t : Int) ∧ si = .int .i64 (x : Int) ∧ Hid (p.d = listV ((M.take t).drop f)) ∧ Hid (VB wr g6 p) ∧ Hid (Below w1.heap.size w1 wr)) (fun sf st _ _ => (intOf st).toNat - (intOf sf).toNat)
      case atStart => exact ⟨0, j, 0, ⟨k0, S0, ql0, nl0, cl0, qh0, nh0, ch0, qz0, nz0, cz0, d0⟩, Nat.zero_le _, Nat.le_refl _, Nat.zero_le _, by omega, rfl, rfl, rfl, HDs, HV, HBx⟩
      case round =>
        clear HV HBx HDs t1
        obtain ⟨f, t, x, p, hft, htj, hx12, hxs, rfl, rfl, rfl, HD, HV, HBx⟩ := hrel
        obtain ⟨k3, S3, ql3, nl3, cl3, qh3, nh3, ch3, qz3, nz3, cz3, d3⟩ := p
        have HB := Lib.hid (HB1.out.trans (HBx.out.mono HB1.out.size))
        by_cases hlt : f < t
        · have t1 : decide ((f : Int) < (t : Int)) = true := decide_eq_true (by omega)
          have hf0 : (0 : Int) ≤ (f : Int) := by omega
          have hfm : (f : Int) < (j : Int) := by omega
          have hx0 : (0 : Int) ≤ (x : Int) := by omega
          have ht12 : (t : Int) ≤ 12 := by omega
          have ht1 : (1 : Int) ≤ (t : Int) := by omega
          obtain ⟨X, hX⟩ := str_ex (wd M f)
          obtain ⟨Y, hY⟩ := str_ex (wd M (t - 1))
          obtain ⟨b, off, e, hbl, hc⟩ := SR.at_ (HS1.out.keep HBx.out) f (by omega) X hX
          obtain ⟨b', off', e', -, hc'⟩ := SR.at_ (HS1.out.keep HBx.out) (t - 1) (by omega) Y hY
          rw [e] at e'
          injection e' with e'
          injection e' with e1' e2'
          subst e1' e2' e
          have hu := hc wr (Below.refl _ _)
          have hv := hc' wr (Below.refl _ _)
          have ix1 := fun W => ix_at b off j c (t - 1) ((t : Int) - 1) (by omega) (by omega) W
          have HWf := Lib.hid (way_first M f t (by rw [HLn.out]; exact htj) hlt X hX HTm.out)
          have HWl := Lib.hid (way_last M f t (by rw [HLn.out]; exact htj) hlt Y hY HTm.out)
          have HTt := Lib.hid (show ((t : Int) - 1) = ((t - 1 : Nat) : Int) by omega)
          clear hX hY hc hc' hbl
          obtain ⟨sb, hsb⟩ : ∃ sb : Bool, (bits BinOp.and IntKind.u16 (en / 2 ^ x) 1 == 1) = sb := ⟨_, rfl⟩
          go_upto_if 67 with fail
          go_cut [10, 11, 13, 14] (fun sf st sn sy wx => ∃ (f2 t2 i : Nat) (nm y : ByteArray), sf = .int .i64 (f2 : Int) ∧ st = .int .i64 (t2 : Int) ∧ sn = .string nm ∧ sy = .string y ∧ Hid (Way M f t f2 t2 i nm y) ∧ wr = wx)
          case first =>
            cases sb
            · go_wp2_with fail
              go_meet
              exact ⟨f + 1, t, 2, _, X, by go_num, rfl, rfl, rfl, HWf, rfl⟩
            · go_wp2_with fail
              go_meet
              exact ⟨f, t - 1, 3, _, Y, rfl, by rw [HTt.out], rfl, rfl, HWl, rfl⟩
          case rest =>
          obtain ⟨f2, t2, i, nm, y, rfl, rfl, rfl, rfl, HWy, rfl⟩ := hcut
          clear HWf HWl HTt hsb ix1 hu hv
          rename World => wr
          obtain ⟨NB, HNB⟩ : ∃ NR, Hid ((bulk y.data.toList).length = NR) := ⟨_, Lib.hid rfl⟩
          obtain ⟨XB, HXB⟩ : ∃ XR : ByteArray, Hid (XR.data.toList = bulk y.data.toList) := ⟨⟨(bulk y.data.toList).toArray⟩, Lib.hid rfl⟩
          obtain ⟨NI, HNI⟩ : ∃ NR, Hid ((int ((t2 : Int) - (f2 : Int))).length = NR) := ⟨_, Lib.hid rfl⟩
          obtain ⟨XI, HXI⟩ : ∃ XR : ByteArray, Hid (XR.data.toList = int ((t2 : Int) - (f2 : Int))) := ⟨⟨(int ((t2 : Int) - (f2 : Int))).toArray⟩, Lib.hid rfl⟩
          have C1 := Lib.hid (fun (W Y : World) (g : Nat) (hY : Below (W.alloc (.cells #[.string nm, .string ⟨#[107]⟩] 9)).heap.size (W.alloc (.cells #[.string nm, .string ⟨#[107]⟩] 9)) Y) (hgw : g = W.heap.size) (hW : Below w.heap.size w W) (hpv : PV.In W ⟨k3, S3, ql3, nl3, cl3, qh3, nh3, ch3, qz3, nz3, cz3, d3⟩) (hdv : PV.d ⟨k3, S3, ql3, nl3, cl3, qh3, nh3, ch3, qz3, nz3, cz3, d3⟩ = listV ((M.take t).drop f)) => (show Calls Tryd.prog 12 #[.agg #[.int .u8 k3, .string S3, .slice ql3 nl3 cl3, .slice qh3 nh3 ch3, .slice qz3 nz3 cz3], .slice (some ⟨g, 0, none⟩) 2 2] Y (DoN (listV ((M.take t2).drop f2)) (bulk y.data.toList) W) from by subst hgw; exact don_to HWy.out.at_ (on2 i HWy.out.i6 nm ⟨#[107]⟩ HWy.out.nn HWy.out.nz HWy.out.nd ⟨k3, S3, ql3, nl3, cl3, qh3, nh3, ch3, qz3, nz3, cz3, d3⟩ ((M.take t).drop f) W Y hY hpv hdv (HG.out W hW) (HWy.out.tame HTm.out))))
          obtain ⟨-, -, ra0, ra1, ra2, ra3, ra4⟩ := HV.out.room
          dsimp only at ra0 ra1 ra2 ra3 ra4
          have HVl := Lib.hid HV.out.lt
          go_wp2_with fail
          clear ra0 ra1 ra2 ra3 ra4
          with_reducible refine (C1.out wr _ _ (Below.refl _ _) rfl HB.out HV.out.pv HD.out).mono ?_
          rintro e wa ⟨p4, vr4, rfl, hI, hd, hn, hA, hb⟩
          obtain ⟨k4, S4, ql4, nl4, cl4, qh4, nh4, ch4, qz4, nz4, cz4, d4⟩ := p4
          dsimp only [PV.agg]
          obtain ⟨qr4, cr4, rfl, hv4⟩ := ans_text hA NB HNB.out XB HXB.out
          have hbn := hb.trans ((Kit.below1 wa (.cells #[.int .u8 k4, .string S4, .slice ql4 nl4 cl4, .slice qh4 nh4 ch4, .slice qz4 nz4 cz4] 26)).mono hb.size)
          have HV := Lib.hid (HV.out.keep hbn)
          have HB := Lib.hid (HB.out.trans (hbn.mono HB.out.size))
          have HBx := Lib.hid (HBx.out.trans (hbn.mono HBx.out.size))
          have HV4 := Lib.hid (show VB _ wa.heap.size ⟨k4, S4, ql4, nl4, cl4, qh4, nh4, ch4, qz4, nz4, cz4, d4⟩ from VB.new hI)
          have HD4 := Lib.hid (show PV.d ⟨k4, S4, ql4, nl4, cl4, qh4, nh4, ch4, qz4, nz4, cz4, d4⟩ = _ from hd)
          have hbx := Kit.below1 wa (.cells #[.int .u8 k4, .string S4, .slice ql4 nl4 cl4, .slice qh4 nh4 ch4, .slice qz4 nz4 cz4] 26)
          have HC4 := Lib.hid (fun W hW => hv4 W (hbx.trans (Below.mono hW hbx.size)))
          clear hbx
          have HN4 := Lib.hid (show ∀ k, PV.at_ ⟨k4, S4, ql4, nl4, cl4, qh4, nh4, ch4, qz4, nz4, cz4, d4⟩ k → wr.heap.size ≤ k from hn)
          have HL4 := Lib.hid (show wr.heap.size ≤ wa.heap.size from Below.size hb)
          clear hI hd hn hA hb hbn hv4
          go_upto_region 25 with fail
          generalize hgg : wa.heap.size = g4 at HV4 HL4 ⊢
          clear hgg
          generalize wa.alloc (.cells #[.int .u8 k4, .string S4, .slice ql4 nl4 cl4, .slice qh4 nh4 ch4, .slice qz4 nz4 cz4] 26) = w4 at HV4 HV HB HBx HC4 ⊢
          have C2 := Lib.hid (fun (W Y : World) (g : Nat) (hY : Below (W.alloc (.cells #[.string ⟨#[108, 108, 101, 110]⟩, .string ⟨#[107]⟩] 9)).heap.size (W.alloc (.cells #[.string ⟨#[108, 108, 101, 110]⟩, .string ⟨#[107]⟩] 9)) Y) (hgw : g = W.heap.size) (hW : Below w.heap.size w W) (hpv : PV.In W ⟨k4, S4, ql4, nl4, cl4, qh4, nh4, ch4, qz4, nz4, cz4, d4⟩) (hdv : PV.d ⟨k4, S4, ql4, nl4, cl4, qh4, nh4, ch4, qz4, nz4, cz4, d4⟩ = listV ((M.take t2).drop f2)) => (show Calls Tryd.prog 12 #[.agg #[.int .u8 k4, .string S4, .slice ql4 nl4 cl4, .slice qh4 nh4 ch4, .slice qz4 nz4 cz4], .slice (some ⟨g, 0, none⟩) 2 2] Y (DoN (listV ((M.take t2).drop f2)) (int ((t2 : Int) - (f2 : Int))) W) from by subst hgw; exact don_to (count_of M f2 t2 HWy.out.tm HWy.out.le) (on2 4 (by decide) ⟨#[108, 108, 101, 110]⟩ ⟨#[107]⟩ (by decide) (by decide) (by decide) ⟨k4, S4, ql4, nl4, cl4, qh4, nh4, ch4, qz4, nz4, cz4, d4⟩ ((M.take t2).drop f2) W Y hY hpv hdv (HG.out W hW) tame4)))
          obtain ⟨-, -, ra0, ra1, ra2, ra3, ra4⟩ := HV4.out.room
          dsimp only at ra0 ra1 ra2 ra3 ra4
          clear C1 HL4 HNB
          go_wp2_with fail
          clear ra0 ra1 ra2 ra3 ra4
          with_reducible refine (C2.out w4 _ _ (Below.refl _ _) rfl HB.out HV4.out.pv HD4.out).mono ?_
          rintro e wa ⟨p5, vr5, rfl, hI, hd, hn, hA, hb⟩
          obtain ⟨k5, S5, ql5, nl5, cl5, qh5, nh5, ch5, qz5, nz5, cz5, d5⟩ := p5
          dsimp only [PV.agg]
          obtain ⟨qr5, cr5, rfl, hv5⟩ := ans_text hA NI HNI.out XI HXI.out
          have hbn := hb.trans ((Kit.below1 wa (.cells #[.int .u8 k5, .string S5, .slice ql5 nl5 cl5, .slice qh5 nh5 ch5, .slice qz5 nz5 cz5] 26)).mono hb.size)
          have HV := Lib.hid (HV.out.keep hbn)
          have HV4 := Lib.hid (HV4.out.keep hbn)
          have HC4 := Lib.hid (fun W hW => HC4.out W (hbn.trans (Below.mono hW hbn.size)))
          have HB := Lib.hid (HB.out.trans (hbn.mono HB.out.size))
          have HBx := Lib.hid (HBx.out.trans (hbn.mono HBx.out.size))
          have HV5 := Lib.hid (show VB _ wa.heap.size ⟨k5, S5, ql5, nl5, cl5, qh5, nh5, ch5, qz5, nz5, cz5, d5⟩ from VB.new hI)
          have HD5 := Lib.hid (show PV.d ⟨k5, S5, ql5, nl5, cl5, qh5, nh5, ch5, qz5, nz5, cz5, d5⟩ = _ from hd)
          have hbx := Kit.below1 wa (.cells #[.int .u8 k5, .string S5, .slice ql5 nl5 cl5, .slice qh5 nh5 ch5, .slice qz5 nz5 cz5] 26)
          have HC5 := Lib.hid (fun W hW => hv5 W (hbx.trans (Below.mono hW hbx.size)))
          clear hbx
          have HL5 := Lib.hid (show w4.heap.size ≤ wa.heap.size from Below.size hb)
          clear hI hd hn hA hb hbn hv5
          go_upto_region 26 with fail
          generalize hgg : wa.heap.size = g5 at HV5 HL5 ⊢
          clear hgg
          generalize wa.alloc (.cells #[.int .u8 k5, .string S5, .slice ql5 nl5 cl5, .slice qh5 nh5 ch5, .slice qz5 nz5 cz5] 26) = w5 at HV5 HV HV4 HC4 HB HBx HC5 ⊢
          clear C2 HL5 HV5 HD5
          obtain ⟨NB2, HNB2⟩ : ∃ NR, Hid ((bulk y.data.toList).length = NR) := ⟨_, Lib.hid rfl⟩
          go_cut [105] (fun v wx => v = .bool false ∧ Hid (Below w5.heap.size w5 wx))
          case first =>
            have hc4 := HC4.out
            have hc5 := HC5.out
            have hys : y.size ≤ 1048576 := HWy.out.ys
            have hw1 : -4096 ≤ (t2 : Int) - (f2 : Int) ∧ (t2 : Int) - (f2 : Int) ≤ 4096 := by have := HWy.out.le; have := HWy.out.tm; have := HLn.out; omega
            have A1 := Lib.hid (fun W (h : Below w5.heap.size w5 W) => (show Calls Tryd.prog 14 #[.string y] W (Said w5 W NB2 XB) from (rbulk y W hys).mono (fun e w' hh => said_of hh h NB2 HNB2.out XB HXB.out)))
            have A2 := Lib.hid (fun W (h : Below w5.heap.size w5 W) => (show Calls Tryd.prog 13 #[.int .i64 ((t2 : Int) - (f2 : Int))] W (Said w5 W NI XI) from (rint ((t2 : Int) - (f2 : Int)) W (by omega) (by omega)).mono (fun e w' hh => said_of hh h NI HNI.out XI HXI.out)))
            obtain ⟨wa, wb⟩ := num_in (z := (t2 : Int) - (f2 : Int)) hw1
            clear hw1 HC4 HC5 HV HV4 HBx hys HD HD4 hft htj hx12 hxs ht12 ht1 hlt
            refine wp_region_held_drew (S := fun W => Below w5.heap.size w5 W ∧ Below w5.heap.size w5 W) (by kernel_rfl) ?_ (fun hHeld => ?_)
            · exact ⟨(Below.refl _ _).drew, (Below.refl _ _).drew⟩
            refine wpAnyH_take (i := 0) (v := ?_) rfl (by kernel_rfl) (by kernel_rfl) (by kernel_rfl) (fun _ _ _ h => h) (Or.inl ⟨by rfl, ?_⟩) (by assumption) ?_
            rotate_left
            · intro W0 hSw; obtain ⟨hSa, hSb⟩ := hSw; go_simp; all_goals (with_reducible rfl)
            try simp only [Act.put, List.getElem_toArray, List.getElem_cons_zero, List.setIfInBounds_toArray, List.set_cons_zero, List.set_cons_succ]
            refine wpAnyH_take (i := 1) (v := ?_) rfl (by kernel_rfl) (by kernel_rfl) (by kernel_rfl) (fun _ _ _ h => h) (Or.inl ⟨by rfl, ?_⟩) (by assumption) ?_
            rotate_left
            · intro W0 hSw; obtain ⟨hSa, hSb⟩ := hSw; go_simp; all_goals (with_reducible rfl)
            try simp only [Act.put, List.getElem_toArray, List.getElem_cons_succ, List.getElem_cons_zero, List.setIfInBounds_toArray, List.set_cons_zero, List.set_cons_succ]
            refine wpAnyH_take (i := 2) (v := ?_) rfl (by kernel_rfl) (by kernel_rfl) (by kernel_rfl) (fun _ _ _ h => h) (Or.inl ⟨by rfl, ?_⟩) (by assumption) ?_
            rotate_left
            · intro W0 hSw; obtain ⟨hSa, hSb⟩ := hSw; go_simp; all_goals (with_reducible rfl)
            try simp only [Act.put, List.getElem_toArray, List.getElem_cons_succ, List.getElem_cons_zero, List.setIfInBounds_toArray, List.set_cons_zero, List.set_cons_succ]
            refine wpAnyH_ready (rs := [3]) (by kernel_rfl) (by simp) ?_
            refine AllReadyH.cons rfl (fun K hK => ?_) AllReadyH.nil
            go_simp
            go_wp2_with (go_at_call 14; (refine (A1.out _ hHeld.1).mono ?_); rintro e wA0 ⟨pwA0, cwA0, rfl, vwA0, bwA0, ywA0, zwA0⟩)
            have hC := hHeld.2.trans (ywA0.mono hHeld.2.size)
            refine hK.out _ _ ?_ (fun hHeld2 => ?_)
            · exact ⟨bwA0, hC⟩
            clear hK K hHeld hHeld2
            have hHeld : Below w5.heap.size w5 wA0 ∧ Below wA0.heap.size wA0 wA0 := ⟨bwA0, zwA0⟩
            refine held_mono (S' := fun W => Below w5.heap.size w5 W ∧ Below wA0.heap.size wA0 W) (fun W hW => ⟨hW.1, hC.trans (hW.2.mono hC.size)⟩) _ _ _ _ ?_
            clear hC
            refine wpAnyH_take (i := 4) (v := ?_) rfl (by kernel_rfl) (by kernel_rfl) (by kernel_rfl) (fun _ _ _ h => h) (Or.inl ⟨by rfl, ?_⟩) (by assumption) ?_
            rotate_left
            · intro W0 hSw; obtain ⟨hSa, hSb⟩ := hSw; go_simp; all_goals (with_reducible rfl)
            try simp only [Act.put, List.getElem_toArray, List.getElem_cons_succ, List.getElem_cons_zero, List.setIfInBounds_toArray, List.set_cons_zero, List.set_cons_succ]
            refine wpAnyH_take (i := 5) (v := ?_) rfl (by kernel_rfl) (by kernel_rfl) (by kernel_rfl) (fun _ _ _ h => h) (Or.inl ⟨by rfl, ?_⟩) (by assumption) ?_
            rotate_left
            · intro W0 hSw; obtain ⟨hSa, hSb⟩ := hSw; go_simp; all_goals (with_reducible rfl)
            try simp only [Act.put, List.getElem_toArray, List.getElem_cons_succ, List.getElem_cons_zero, List.setIfInBounds_toArray, List.set_cons_zero, List.set_cons_succ]
            refine wpAnyH_take (i := 6) (v := ?_) rfl (by kernel_rfl) (by kernel_rfl) (by kernel_rfl) (fun _ _ _ h => h) (Or.inl ⟨by rfl, ?_⟩) (by assumption) ?_
            rotate_left
            · intro W0 hSw; obtain ⟨hSa, hSb⟩ := hSw; go_simp; all_goals (with_reducible rfl)
            try simp only [Act.put, List.getElem_toArray, List.getElem_cons_succ, List.getElem_cons_zero, List.setIfInBounds_toArray, List.set_cons_zero, List.set_cons_succ]
            refine wpAnyH_take (i := 7) (v := ?_) rfl (by kernel_rfl) (by kernel_rfl) (by kernel_rfl) (fun _ _ _ h => h) (Or.inl ⟨by rfl, ?_⟩) (by assumption) ?_
            rotate_left
            · intro W0 hSw; obtain ⟨hSa, hSb⟩ := hSw; go_simp; all_goals (with_reducible rfl)
            try simp only [Act.put, List.getElem_toArray, List.getElem_cons_succ, List.getElem_cons_zero, List.setIfInBounds_toArray, List.set_cons_zero, List.set_cons_succ]
            refine wpAnyH_take (i := 8) (v := ?_) rfl (by kernel_rfl) (by kernel_rfl) (by kernel_rfl) (fun _ _ _ h => h) (Or.inl ⟨by rfl, ?_⟩) (by assumption) ?_
            rotate_left
            · intro W0 hSw; obtain ⟨hSa, hSb⟩ := hSw; go_simp; all_goals (with_reducible rfl)
            try simp only [Act.put, List.getElem_toArray, List.getElem_cons_succ, List.getElem_cons_zero, List.setIfInBounds_toArray, List.set_cons_zero, List.set_cons_succ]
            refine wpAnyH_take (i := 9) (v := ?_) rfl (by kernel_rfl) (by kernel_rfl) (by kernel_rfl) (fun _ _ _ h => h) (Or.inl ⟨by rfl, ?_⟩) (by assumption) ?_
            rotate_left
            · intro W0 hSw; obtain ⟨hSa, hSb⟩ := hSw; go_simp; all_goals (with_reducible rfl)
            try simp only [Act.put, List.getElem_toArray, List.getElem_cons_succ, List.getElem_cons_zero, List.setIfInBounds_toArray, List.set_cons_zero, List.set_cons_succ]
            refine wpAnyH_take (i := 10) (v := ?_) rfl (by kernel_rfl) (by kernel_rfl) (by kernel_rfl) (fun _ _ _ h => h) (Or.inl ⟨by rfl, ?_⟩) (by assumption) ?_
            rotate_left
            · intro W0 hSw; obtain ⟨hSa, hSb⟩ := hSw; go_simp; all_goals (with_reducible rfl)
            try simp only [Act.put, List.getElem_toArray, List.getElem_cons_succ, List.getElem_cons_zero, List.setIfInBounds_toArray, List.set_cons_zero, List.set_cons_succ]
            refine wpAnyH_take (i := 11) (v := ?_) rfl (by kernel_rfl) (by kernel_rfl) (by kernel_rfl) (fun _ _ _ h => h) (Or.inl ⟨by rfl, ?_⟩) (by assumption) ?_
            rotate_left
            · intro W0 hSw; obtain ⟨hSa, hSb⟩ := hSw; go_simp; all_goals (with_reducible rfl)
            try simp only [Act.put, List.getElem_toArray, List.getElem_cons_succ, List.getElem_cons_zero, List.setIfInBounds_toArray, List.set_cons_zero, List.set_cons_succ]
            refine wpAnyH_ready (rs := [12]) (by kernel_rfl) (by simp) ?_
            refine AllReadyH.cons rfl (fun K hK => ?_) AllReadyH.nil
            go_simp
            go_wp2_with (go_at_call 13; (refine (A2.out _ hHeld.1).mono ?_); rintro e wA1 ⟨pwA1, cwA1, rfl, vwA1, bwA1, ywA1, zwA1⟩)
            have hC := hHeld.2.trans (ywA1.mono hHeld.2.size)
            refine hK.out _ _ ?_ (fun hHeld2 => ?_)
            · exact ⟨bwA1, hC⟩
            clear hK K hHeld hHeld2
            have hHeld : Below w5.heap.size w5 wA1 ∧ Below wA1.heap.size wA1 wA1 := ⟨bwA1, zwA1⟩
            refine held_mono (S' := fun W => Below w5.heap.size w5 W ∧ Below wA1.heap.size wA1 W) (fun W hW => ⟨hW.1, hC.trans (hW.2.mono hC.size)⟩) _ _ _ _ ?_
            clear hC
            refine wpAnyH_take (i := 13) (v := ?_) rfl (by kernel_rfl) (by kernel_rfl) (by kernel_rfl) (fun _ _ _ h => h) (Or.inl ⟨by rfl, ?_⟩) (by assumption) ?_
            rotate_left
            · intro W0 hSw; obtain ⟨hSa, hSb⟩ := hSw; go_simp; all_goals (with_reducible rfl)
            try simp only [Act.put, List.getElem_toArray, List.getElem_cons_succ, List.getElem_cons_zero, List.setIfInBounds_toArray, List.set_cons_zero, List.set_cons_succ]
            refine wpAnyH_take (i := 14) (v := ?_) rfl (by kernel_rfl) (by kernel_rfl) (by kernel_rfl) (fun _ _ _ h => h) (Or.inl ⟨by rfl, ?_⟩) (by assumption) ?_
            rotate_left
            · intro W0 hSw; obtain ⟨hSa, hSb⟩ := hSw; go_simp; all_goals (with_reducible rfl)
            try simp only [Act.put, List.getElem_toArray, List.getElem_cons_succ, List.getElem_cons_zero, List.setIfInBounds_toArray, List.set_cons_zero, List.set_cons_succ]
            refine wpAnyH_take (i := 15) (v := ?_) rfl (by kernel_rfl) (by kernel_rfl) (by kernel_rfl) (fun _ _ _ h => h) (Or.inl ⟨by rfl, ?_⟩) (by assumption) ?_
            rotate_left
            · intro W0 hSw; obtain ⟨hSa, hSb⟩ := hSw; go_simp; all_goals (with_reducible rfl)
            try simp only [Act.put, List.getElem_toArray, List.getElem_cons_succ, List.getElem_cons_zero, List.setIfInBounds_toArray, List.set_cons_zero, List.set_cons_succ]
            refine wpAnyH_done (by kernel_rfl) ?_ _
            go_wp2_with fail
            go_meet
            exact ⟨rfl, Lib.hid hHeld.1⟩
          case rest =>
          clear HC4 HC5 HNB2 HXB HNI HXI
          obtain ⟨rfl, hbn⟩ := hcut
          rename World => w6
          have HV6 := Lib.hid (HV.out.keep hbn.out)
          have HV9 := Lib.hid (HV4.out.keep hbn.out)
          have HB6 := Lib.hid (HBx.out.trans (hbn.out.mono HBx.out.size))
          obtain ⟨-, -, ra0, ra1, ra2, ra3, ra4⟩ := HV9.out.room
          dsimp only at ra0 ra1 ra2 ra3 ra4
          have HCs := Lib.hid (show (Tryd.prog.info? 26).map (·.size) = some (#[.int .u8 k4, .string S4, .slice ql4 nl4 cl4, .slice qh4 nh4 ch4, .slice qz4 nz4 cz4] : Array Value).size from val_size)
          have HOn := Lib.hid (show (#[.int .u8 k4, .string S4, .slice ql4 nl4 cl4, .slice qh4 nh4 ch4, .slice qz4 nz4 cz4] : Array Value).all (·.oneCell') = true by simp [Value.oneCell'])
          have HV7 := Lib.hid (VB.put HV6.out HV9.out.pv (fun k hk => by have h1 := HN4.out k hk; have := HVl.out; omega))
          have HB7 := Lib.hid (below_setRow HB6.out HG6.out #[.int .u8 k4, .string S4, .slice ql4 nl4 cl4, .slice qh4 nh4 ch4, .slice qz4 nz4 cz4])
          dsimp only at HV7
          clear hbn HV4 HV9 HN4 HVl HV HBx
          have hle := HWy.out.le
          have htm := HWy.out.tm
          have hup := HWy.out.up
          have hln := HLn.out
          go_wp2_with (with_reducible refine wpList_store_row rfl 26 (.tmp 6) (.tmp 106) rfl g6 #[.int .u8 k4, .string S4, .slice ql4 nl4 cl4, .slice qh4 nh4 ch4, .slice qz4 nz4 cz4] rfl rfl 26 _ HV6.out.hp HCs.out rfl HOn.out ?_)
          go_roundw
          case rel => exact ⟨f2, t2, x + 1, ⟨k4, S4, ql4, nl4, cl4, qh4, nh4, ch4, qz4, nz4, cz4, d4⟩, hle, by omega, by omega, by omega, rfl, rfl, by go_num, HD4, HV7, HB7⟩
          case measure => simp [intOf]; omega
        · obtain rfl : f = t := by omega
          have t1 : decide ((f : Int) < (f : Int)) = false := decide_eq_false (by omega)
          have HDn := Lib.hid (show PV.d ⟨k3, S3, ql3, nl3, cl3, qh3, nh3, ch3, qz3, nz3, cz3, d3⟩ = listV [] by rw [show PV.d ⟨k3, S3, ql3, nl3, cl3, qh3, nh3, ch3, qz3, nz3, cz3, d3⟩ = listV ((M.take f).drop f) from HD.out, show (M.take f).drop f = [] by rw [List.drop_eq_nil_of_le (by rw [List.length_take]; omega)]])
          have hk3 : k3 = 0 := kind_of HV.out.pv HDn.out
          obtain ⟨NN, HNN⟩ : ∃ NR, Hid (null.length = NR) := ⟨_, Lib.hid rfl⟩
          obtain ⟨XN, HXN⟩ : ∃ XR : ByteArray, Hid (XR.data.toList = null) := ⟨⟨null.toArray⟩, Lib.hid rfl⟩
          have C1 := Lib.hid (fun (W Y : World) (g : Nat) (hY : Below (W.alloc (.cells #[.string ⟨#[108, 112, 111, 112]⟩, .string ⟨#[107]⟩] 9)).heap.size (W.alloc (.cells #[.string ⟨#[108, 112, 111, 112]⟩, .string ⟨#[107]⟩] 9)) Y) (hgw : g = W.heap.size) (hW : Below w.heap.size w W) (hpv : PV.In W ⟨k3, S3, ql3, nl3, cl3, qh3, nh3, ch3, qz3, nz3, cz3, d3⟩) (hdv : PV.d ⟨k3, S3, ql3, nl3, cl3, qh3, nh3, ch3, qz3, nz3, cz3, d3⟩ = listV ([])) => (show Calls Tryd.prog 12 #[.agg #[.int .u8 k3, .string S3, .slice ql3 nl3 cl3, .slice qh3 nh3 ch3, .slice qz3 nz3 cz3], .slice (some ⟨g, 0, none⟩) 2 2] Y (DoN (listV ([])) (null) W) from by subst hgw; exact don_to (rfl) (on2 2 (by decide) ⟨#[108, 112, 111, 112]⟩ ⟨#[107]⟩ (by decide) (by decide) (by decide) ⟨k3, S3, ql3, nl3, cl3, qh3, nh3, ch3, qz3, nz3, cz3, d3⟩ ([]) W Y hY hpv hdv (HG.out W hW) (tame2 (fun s hs => by cases hs)))))
          clear HD
          subst hk3
          obtain ⟨-, -, ra0, ra1, ra2, ra3, ra4⟩ := HV.out.room
          dsimp only at ra0 ra1 ra2 ra3 ra4
          go_wp2_with fail
          clear ra0 ra1 ra2 ra3 ra4
          with_reducible refine (C1.out wr _ _ (Below.refl _ _) rfl HB.out HV.out.pv HDn.out).mono ?_
          rintro e wa ⟨p4, vr4, rfl, hI, hd, hn, hA, hb⟩
          obtain ⟨k4, S4, ql4, nl4, cl4, qh4, nh4, ch4, qz4, nz4, cz4, d4⟩ := p4
          dsimp only [PV.agg]
          obtain ⟨qr4, cr4, rfl, hv4⟩ := ans_text hA NN HNN.out XN HXN.out
          have hbn := hb.trans ((Kit.below1 wa (.cells #[.int .u8 k4, .string S4, .slice ql4 nl4 cl4, .slice qh4 nh4 ch4, .slice qz4 nz4 cz4] 26)).mono hb.size)
          have HV := Lib.hid (HV.out.keep hbn)
          have HB := Lib.hid (HB.out.trans (hbn.mono HB.out.size))
          have HV4 := Lib.hid (show VB _ wa.heap.size ⟨k4, S4, ql4, nl4, cl4, qh4, nh4, ch4, qz4, nz4, cz4, d4⟩ from VB.new hI)
          have HD4 := Lib.hid (show PV.d ⟨k4, S4, ql4, nl4, cl4, qh4, nh4, ch4, qz4, nz4, cz4, d4⟩ = _ from hd)
          have hbx := Kit.below1 wa (.cells #[.int .u8 k4, .string S4, .slice ql4 nl4 cl4, .slice qh4 nh4 ch4, .slice qz4 nz4 cz4] 26)
          have HC4 := Lib.hid (fun W hW => hv4 W (hbx.trans (Below.mono hW hbx.size)))
          clear hbx
          have HL4 := Lib.hid (show wr.heap.size ≤ wa.heap.size from Below.size hb)
          clear hI hd hn hA hb hbn hv4
          go_upto_region 30 with fail
          generalize hgg : wa.heap.size = g4 at HV4 HL4 ⊢
          clear hgg
          generalize wa.alloc (.cells #[.int .u8 k4, .string S4, .slice ql4 nl4 cl4, .slice qh4 nh4 ch4, .slice qz4 nz4 cz4] 26) = w4 at HV4 HV HB HC4 ⊢
          have hl : ∀ W, Below w4.heap.size w4 W → W.cell? ⟨g6, 0, none⟩ = some (.int .u8 0) := fun W hW => (HV.out.keep hW).room.c0
          have hc := HC4.out
          have A1 := Lib.hid (fun W (h : Below w4.heap.size w4 W) => (show Calls Tryd.prog 15 #[] W (Said w4 W NN XN) from (rnull W).mono (fun e w' hh => said_of hh h NN HNN.out XN HXN.out)))
          clear C1 HL4 HV HV4 HD4 HC4 HNN HXN HDn HBx hft htj hx12 hxs hlt
          refine wp_region_held_drew (S := fun W => Below w4.heap.size w4 W ∧ Below w4.heap.size w4 W) (by kernel_rfl) ?_ (fun hHeld => ?_)
          · exact ⟨(Below.refl _ _).drew, (Below.refl _ _).drew⟩
          refine wpAnyH_take (i := 0) (v := ?_) rfl (by kernel_rfl) (by kernel_rfl) (by kernel_rfl) (fun _ _ _ h => h) (Or.inl ⟨by rfl, ?_⟩) (by assumption) ?_
          rotate_left
          · intro W0 hSw; obtain ⟨hSa, hSb⟩ := hSw; go_simp; all_goals (with_reducible rfl)
          try simp only [Act.put, List.getElem_toArray, List.getElem_cons_zero, List.setIfInBounds_toArray, List.set_cons_zero, List.set_cons_succ]
          refine wpAnyH_take (i := 1) (v := ?_) rfl (by kernel_rfl) (by kernel_rfl) (by kernel_rfl) (fun _ _ _ h => h) (Or.inl ⟨by rfl, ?_⟩) (by assumption) ?_
          rotate_left
          · intro W0 hSw; obtain ⟨hSa, hSb⟩ := hSw; go_simp; all_goals (with_reducible rfl)
          try simp only [Act.put, List.getElem_toArray, List.getElem_cons_succ, List.getElem_cons_zero, List.setIfInBounds_toArray, List.set_cons_zero, List.set_cons_succ]
          refine wpAnyH_take (i := 2) (v := ?_) rfl (by kernel_rfl) (by kernel_rfl) (by kernel_rfl) (fun _ _ _ h => h) (Or.inl ⟨by rfl, ?_⟩) (by assumption) ?_
          rotate_left
          · intro W0 hSw; obtain ⟨hSa, hSb⟩ := hSw; go_simp; all_goals (with_reducible rfl)
          try simp only [Act.put, List.getElem_toArray, List.getElem_cons_succ, List.getElem_cons_zero, List.setIfInBounds_toArray, List.set_cons_zero, List.set_cons_succ]
          refine wpAnyH_take (i := 3) (v := ?_) rfl (by kernel_rfl) (by kernel_rfl) (by kernel_rfl) (fun _ _ _ h => h) (Or.inl ⟨by rfl, ?_⟩) (by assumption) ?_
          rotate_left
          · intro W0 hSw; obtain ⟨hSa, hSb⟩ := hSw; go_simp; all_goals (with_reducible rfl)
          try simp only [Act.put, List.getElem_toArray, List.getElem_cons_succ, List.getElem_cons_zero, List.setIfInBounds_toArray, List.set_cons_zero, List.set_cons_succ]
          refine wpAnyH_take (i := 4) (v := ?_) rfl (by kernel_rfl) (by kernel_rfl) (by kernel_rfl) (fun _ _ _ h => h) (Or.inl ⟨by rfl, ?_⟩) (by assumption) ?_
          rotate_left
          · intro W0 hSw; obtain ⟨hSa, hSb⟩ := hSw; go_simp; all_goals (with_reducible rfl)
          try simp only [Act.put, List.getElem_toArray, List.getElem_cons_succ, List.getElem_cons_zero, List.setIfInBounds_toArray, List.set_cons_zero, List.set_cons_succ]
          refine wpAnyH_take (i := 5) (v := ?_) rfl (by kernel_rfl) (by kernel_rfl) (by kernel_rfl) (fun _ _ _ h => h) (Or.inl ⟨by rfl, ?_⟩) (by assumption) ?_
          rotate_left
          · intro W0 hSw; obtain ⟨hSa, hSb⟩ := hSw; go_simp; all_goals (with_reducible rfl)
          try simp only [Act.put, List.getElem_toArray, List.getElem_cons_succ, List.getElem_cons_zero, List.setIfInBounds_toArray, List.set_cons_zero, List.set_cons_succ]
          refine wpAnyH_take (i := 6) (v := ?_) rfl (by kernel_rfl) (by kernel_rfl) (by kernel_rfl) (fun _ _ _ h => h) (Or.inl ⟨by rfl, ?_⟩) (by assumption) ?_
          rotate_left
          · intro W0 hSw; obtain ⟨hSa, hSb⟩ := hSw; go_simp; all_goals (with_reducible rfl)
          try simp only [Act.put, List.getElem_toArray, List.getElem_cons_succ, List.getElem_cons_zero, List.setIfInBounds_toArray, List.set_cons_zero, List.set_cons_succ]
          refine wpAnyH_take (i := 7) (v := ?_) rfl (by kernel_rfl) (by kernel_rfl) (by kernel_rfl) (fun _ _ _ h => h) (Or.inl ⟨by rfl, ?_⟩) (by assumption) ?_
          rotate_left
          · intro W0 hSw; obtain ⟨hSa, hSb⟩ := hSw; go_simp; all_goals (with_reducible rfl)
          try simp only [Act.put, List.getElem_toArray, List.getElem_cons_succ, List.getElem_cons_zero, List.setIfInBounds_toArray, List.set_cons_zero, List.set_cons_succ]
          refine wpAnyH_take (i := 8) (v := ?_) rfl (by kernel_rfl) (by kernel_rfl) (by kernel_rfl) (fun _ _ _ h => h) (Or.inl ⟨by rfl, ?_⟩) (by assumption) ?_
          rotate_left
          · intro W0 hSw; obtain ⟨hSa, hSb⟩ := hSw; go_simp; all_goals (with_reducible rfl)
          try simp only [Act.put, List.getElem_toArray, List.getElem_cons_succ, List.getElem_cons_zero, List.setIfInBounds_toArray, List.set_cons_zero, List.set_cons_succ]
          refine wpAnyH_ready (rs := [9]) (by kernel_rfl) (by simp) ?_
          refine AllReadyH.cons rfl (fun K hK => ?_) AllReadyH.nil
          go_simp
          go_wp2_with (go_at_call 15; (refine (A1.out _ hHeld.1).mono ?_); rintro e wA0 ⟨pwA0, cwA0, rfl, vwA0, bwA0, ywA0, zwA0⟩)
          have hC := hHeld.2.trans (ywA0.mono hHeld.2.size)
          refine hK.out _ _ ?_ (fun hHeld2 => ?_)
          · exact ⟨bwA0, hC⟩
          clear hK K hHeld hHeld2
          have hHeld : Below w4.heap.size w4 wA0 ∧ Below wA0.heap.size wA0 wA0 := ⟨bwA0, zwA0⟩
          refine held_mono (S' := fun W => Below w4.heap.size w4 W ∧ Below wA0.heap.size wA0 W) (fun W hW => ⟨hW.1, hC.trans (hW.2.mono hC.size)⟩) _ _ _ _ ?_
          clear hC
          refine wpAnyH_take (i := 10) (v := ?_) rfl (by kernel_rfl) (by kernel_rfl) (by kernel_rfl) (fun _ _ _ h => h) (Or.inl ⟨by rfl, ?_⟩) (by assumption) ?_
          rotate_left
          · intro W0 hSw; obtain ⟨hSa, hSb⟩ := hSw; go_simp; all_goals (with_reducible rfl)
          try simp only [Act.put, List.getElem_toArray, List.getElem_cons_succ, List.getElem_cons_zero, List.setIfInBounds_toArray, List.set_cons_zero, List.set_cons_succ]
          refine wpAnyH_take (i := 11) (v := ?_) rfl (by kernel_rfl) (by kernel_rfl) (by kernel_rfl) (fun _ _ _ h => h) (Or.inl ⟨by rfl, ?_⟩) (by assumption) ?_
          rotate_left
          · intro W0 hSw; obtain ⟨hSa, hSb⟩ := hSw; go_simp; all_goals (with_reducible rfl)
          try simp only [Act.put, List.getElem_toArray, List.getElem_cons_succ, List.getElem_cons_zero, List.setIfInBounds_toArray, List.set_cons_zero, List.set_cons_succ]
          refine wpAnyH_take (i := 12) (v := ?_) rfl (by kernel_rfl) (by kernel_rfl) (by kernel_rfl) (fun _ _ _ h => h) (Or.inl ⟨by rfl, ?_⟩) (by assumption) ?_
          rotate_left
          · intro W0 hSw; obtain ⟨hSa, hSb⟩ := hSw; go_simp; all_goals (with_reducible rfl)
          try simp only [Act.put, List.getElem_toArray, List.getElem_cons_succ, List.getElem_cons_zero, List.setIfInBounds_toArray, List.set_cons_zero, List.set_cons_succ]
          refine wpAnyH_take (i := 13) (v := ?_) rfl (by kernel_rfl) (by kernel_rfl) (by kernel_rfl) (fun _ _ _ h => h) (Or.inl ⟨by rfl, ?_⟩) (by assumption) ?_
          rotate_left
          · intro W0 hSw; obtain ⟨hSa, hSb⟩ := hSw; go_simp; all_goals (with_reducible rfl)
          try simp only [Act.put, List.getElem_toArray, List.getElem_cons_succ, List.getElem_cons_zero, List.setIfInBounds_toArray, List.set_cons_zero, List.set_cons_succ]
          refine wpAnyH_done (by kernel_rfl) ?_ _
          go_wp2_with fail
          go_ret
          exact ⟨rfl, HB.out.trans (hHeld.1.mono HB.out.size)⟩

end Go.Proofs.YteadjcligmmkmaaDoor.listsBack
