/-
  UsesMany: a request of some keys needs each of them, in order; of texts that are set each second word.
-/
import Derived.Test.YtonoelpmmjnpeaaUseLaw
import Derived.Test.YtonoelpmmjnpeaaUseMany
import Derived.Test.YtonoelpmmjnpeaaStrSame
namespace Go.Proofs.Ytonoelpmmjnpeaa.usesMany
open Go.RowKit Kit StrT UseT TableMath Low UseM RefU UseL
set_option linter.unusedVariables false
set_option maxRecDepth 100000
-- ASKS: 

theorem mget_bad : ofE [[109, 103, 101, 116]] = 1 := by decide +kernel
theorem one_word (w W : World) (k : Nat) (a : ByteArray) (x : List UInt8) (hW : W = w.alloc (.cells #[.string a] 9)) (hk : k = w.heap.size) (hx : a.data.toList = x) : Ss W (some ⟨k, 0, none⟩) [x] := by
  subst hW hk hx
  intro _
  refine ⟨_, 0, rfl, by simp, fun j hj => ?_⟩
  rw [cell_of_row _ _ _ _ 9 _ (heap_alloc_last w _)]
  match j, hj with
  | 0, _ => rfl
  | j + 1, hj => exact absurd hj (by simp)
theorem two_words (w W : World) (k : Nat) (a b : ByteArray) (L : List (List UInt8)) (hW : W = w.alloc (.cells #[.string a, .string b] 9)) (hk : k = w.heap.size) (hL : L = [a.data.toList, b.data.toList]) : Ss W (some ⟨k, 0, none⟩) L := by
  subst hW hk hL
  intro _
  refine ⟨_, 0, rfl, by simp, fun j hj => ?_⟩
  rw [cell_of_row _ _ _ _ 9 _ (heap_alloc_last w _)]
  match j, hj with
  | 0, _ => rfl
  | 1, _ => rfl
  | j + 2, hj => exact absurd hj (by simp)
theorem wrap64_small (x : Int) (h0 : -9223372036854775808 ≤ x) (h1 : x ≤ 9223372036854775807) : wrap64 x = x := by
  unfold wrap64
  omega
theorem wrap_small (x : Int) (h0 : -9223372036854775808 ≤ x) (h1 : x ≤ 9223372036854775807) : IntKind.i64.wrap x = x := by
  rw [IntKind.wrap_i64]
  omega
/-- The four names, as they lie. -/
structure Names (w : World) (b : Nat) : Prop where
  n0 : w.cell? ⟨b, 0, none⟩ = some (.string ⟨#[109, 103, 101, 116]⟩)
  n1 : w.cell? ⟨b, 1, none⟩ = some (.string ⟨#[101, 120, 105, 115, 116, 115]⟩)
  n2 : w.cell? ⟨b, 2, none⟩ = some (.string ⟨#[100, 101, 108]⟩)
  n3 : w.cell? ⟨b, 3, none⟩ = some (.string ⟨#[119, 97, 116, 99, 104]⟩)
theorem Names.keep {w w' : World} {b : Nat} (h : Names w b) (hb : Below w.heap.size w w') (hl : b < w.heap.size) : Names w' b :=
  ⟨by rw [hb.cell (p := ⟨b, 0, none⟩) hl]; exact h.n0, by rw [hb.cell (p := ⟨b, 1, none⟩) hl]; exact h.n1, by rw [hb.cell (p := ⟨b, 2, none⟩) hl]; exact h.n2, by rw [hb.cell (p := ⟨b, 3, none⟩) hl]; exact h.n3⟩
theorem Names.new (w : World) : Names (w.alloc (.cells #[.string ⟨#[109, 103, 101, 116]⟩, .string ⟨#[101, 120, 105, 115, 116, 115]⟩, .string ⟨#[100, 101, 108]⟩, .string ⟨#[119, 97, 116, 99, 104]⟩] 9)) w.heap.size := by
  refine ⟨?_, ?_, ?_, ?_⟩ <;> (rw [cell_of_row _ _ _ _ 9 _ (heap_alloc_last w _)]; rfl)
theorem ownS_one (w W : World) (k : Nat) (S : ByteArray) (x : List UInt8) (hS : S.data.toList = x) (hk : k = W.heap.size) (h : w.heap.size ≤ W.heap.size) : OwnS w.heap.size (W.alloc (.cells #[.string S] 9)) (.slice (some ⟨k, 0, none⟩) 1 1) [x] := by
  subst hk hS
  have h1 := World.ownsRow_lit W (e := 9) (size := 1) (base := w.heap.size) #[.string S] 1 h (by simp [maxLen]) rfl
  have e : sv [S.data.toList] = [.string S] := rfl
  unfold OwnS
  rw [e]
  simpa using h1

set_option maxHeartbeats 8000000 in
theorem walk (q : Option Addr) (L : List (List UInt8)) (n c : Nat) (w : World) (hL : L.length = n) (h : Ss w q L) (hz : ∀ s ∈ L, s.length ≤ 140737488351232) (hc : n ≤ c) (hcm : c ≤ 9223372036854775807) (hnil : q = none → c = 0) :
    Calls Try.prog 6 #[.slice q n c] w fun e w' => e = .returned (.bool true) ∧ Below w.heap.size w w' := by
  have C0 := Lib.hid (shown_any w)
  obtain ⟨M, hM⟩ : ∃ M, M = L.take 10 := ⟨_, rfl⟩
  obtain ⟨m, hm⟩ : ∃ m, m = min n 10 := ⟨_, rfl⟩
  have HMl := Lib.hid (show M.length = m by rw [hM, hm, List.length_take, hL]; omega)
  have HMs := Lib.hid (show Ss w q M by rw [hM]; exact h.take 10)
  have hm10 : m ≤ 10 := by omega
  have hmc : m ≤ c := by omega
  have hmin : min (n : Int) 10 = (m : Int) := by omega
  have hmn : (m : Int) ≤ (c : Int) := by omega
  have hmm : ((10 : Int) < (n : Int) ∧ m = 10) ∨ (¬ (10 : Int) < (n : Int) ∧ m = n) := by omega
  clear hM hL h hz hm
  by_cases hm0 : m = 0
  · subst hm0
    obtain rfl : n = 0 := by omega
    have CO := Lib.hid (fun (W W' : World) (k : Nat) (hW : W' = W.alloc (.cells #[.string ⟨#[109, 103, 101, 116]⟩] 9)) (hk : k = W.heap.size) => of_any (some ⟨k, 0, none⟩) [[109, 103, 101, 116]] 1 1 W' rfl (one_word W W' k _ _ hW hk rfl) (by decide) (by decide) (by decide) (fun h => by cases h) (by decide))
    unfold OfP at CO
    rw [mget_bad] at CO
    clear hmm
    go_enter Try.func6, Try.ntmps6
    go_wp2_with fail
    refine C0.out.mono ?_
    rintro e w1 ⟨rfl, hb1⟩
    have HB1 := Lib.hid (hb1.alloc hb1.size (.cells #[.string ⟨#[109, 103, 101, 116]⟩] 9))
    have C1 := Lib.hid (CO.out w1 _ _ rfl rfl)
    clear hb1 CO C0
    go_wp2_with fail
    refine C1.out.mono ?_
    rintro e w2 ⟨v, rfl, hN, hb2⟩
    obtain ⟨qk, ck, qc, cc, rfl, hO⟩ := need_open hN
    have HB2 := Lib.hid (show Below w.heap.size w w2 from HB1.out.trans (hb2.mono HB1.out.size))
    generalize (ofN [[109, 103, 101, 116]]) = d at hO ⊢
    obtain ⟨kc, kl, ar, aw, cl⟩ := d
    generalize hk1 : kl.length = nk at *
    generalize hk2 : cl.length = nc at *
    have HB3 := Lib.hid (HB2.out.alloc HB2.out.size (.cells #[.int .i64 kc, .slice qk nk ck, .bool ar, .bool aw, .slice qc nc cc] 27))
    clear hN hb2 hO HB1 C1 hk1 hk2
    go_wp2_with fail
    go_ret
    exact ⟨rfl, HB3.out⟩
  have t0 : ((m : Int) == 0) = false := by rw [beq_eq_false_iff_ne]; omega
  obtain ⟨b, off, hq, -, -⟩ := HMs.out (by rw [HMl.out]; omega)
  subst hq
  clear hnil
  rcases hmm with ⟨d1, h10⟩ | ⟨d1, h10⟩
  all_goals
    have HM10 := Lib.hid h10
    clear h10
    go_enter Try.func6, Try.ntmps6
    go_wp2_with fail
    refine C0.out.mono ?_
    rintro e w1 ⟨rfl, hb1⟩
    have HNm := Lib.hid (Names.new w1)
    have HBn := Lib.hid (show Below w.heap.size w (w1.alloc (.cells #[.string ⟨#[109, 103, 101, 116]⟩, .string ⟨#[101, 120, 105, 115, 116, 115]⟩, .string ⟨#[100, 101, 108]⟩, .string ⟨#[119, 97, 116, 99, 104]⟩] 9)) from hb1.alloc hb1.size _)
    have HLn := Lib.hid (show w1.heap.size < (w1.alloc (.cells #[.string ⟨#[109, 103, 101, 116]⟩, .string ⟨#[101, 120, 105, 115, 116, 115]⟩, .string ⟨#[100, 101, 108]⟩, .string ⟨#[119, 97, 116, 99, 104]⟩] 9)).heap.size by simp)
    clear hb1 C0
    go_upto_region 8 with fail
    generalize w1.alloc (.cells #[.string ⟨#[109, 103, 101, 116]⟩, .string ⟨#[101, 120, 105, 115, 116, 115]⟩, .string ⟨#[100, 101, 108]⟩, .string ⟨#[119, 97, 116, 99, 104]⟩] 9) = Wn at HNm HBn HLn ⊢
    go_loopw [8] (fun i wr => ∃ j : Nat, j ≤ 4 ∧ i = .int .i64 j ∧ Hid (Below Wn.heap.size Wn wr)) (fun i _ => 4 - (intOf i).toNat)
    case atStart => exact ⟨0, by omega, rfl, Lib.hid (Below.refl _ _)⟩
    case round =>
      obtain ⟨j, hj, rfl, HB⟩ := hrel
      have HNw := Lib.hid (HNm.out.keep HB.out HLn.out)
      have HMw := Lib.hid (HMs.out.keep (HBn.out.trans (HB.out.mono HBn.out.size)))
      by_cases hj4 : j < 4
      · have hjj : j = 0 ∨ j = 1 ∨ j = 2 ∨ j = 3 := by omega
        rcases hjj with rfl | rfl | rfl | rfl
        · have hx3 : ([109, 103, 101, 116] ∈ g3) := by decide
          obtain ⟨f1, f2, f3⟩ := many_of hx3 M (by rw [HMl.out]; omega)
          have f4 : (decide ([109, 103, 101, 116] = nDel)) = false := by decide
          rw [f4] at f2
          have HO1 := Lib.hid (ownS_one wr wr wr.heap.size ⟨#[109, 103, 101, 116]⟩ [109, 103, 101, 116] rfl rfl (Nat.le_refl _))
          have HB1 := Lib.hid (Kit.below1 wr (.cells #[.string ⟨#[109, 103, 101, 116]⟩] 9))
          have HM1 := Lib.hid (HMw.out.keep HB1.out)
          have HSz := Lib.hid (show ([[109, 103, 101, 116]] : List (List UInt8)).length + m ≤ 2097152 by simp; omega)
          have HZ := Lib.hid (show ([109, 103, 101, 116] :: M).length = m + 1 by rw [List.length_cons, HMl.out])
          have hnm := Names.n0 HNw.out
          go_wp2_with (at_builtin; refine wpList_append_ss (w0 := wr) rfl (.tmp 48) (.tmp 49) rfl _ [[109, 103, 101, 116]] rfl HO1.out HB1.out _ M m c rfl HMl.out HM1.out (fun e => by cases e) HSz.out ([109, 103, 101, 116] :: M) rfl ?_; intro v' w5 hown5 hb5; obtain ⟨p5, c5, hv5, hS5, -, e1, e2, e3⟩ := ownS_ans hown5; have CO := Lib.hid (of_any p5 ([109, 103, 101, 116] :: M) (m + 1) c5 w5 HZ.out hS5 (by omega) (by rw [← HZ.out]; exact e1) e2 e3 (by rw [List.getD_cons_zero]; decide)); rw [HZ.out] at hv5; subst hv5; have HB5 := Lib.hid (HB.out.trans (hb5.mono HB.out.size)); clear hown5 hb5 hS5 e1 e2 e3 HO1 HB1 HM1)
          refine CO.out.mono ?_
          rintro e w6 ⟨v6, rfl, hN6, hb6⟩
          obtain ⟨qk, ck, qc, cc, rfl, hO⟩ := need_open hN6
          rw [f1]
          have HO6 := Lib.hid hO
          have HB6 := Lib.hid (HB5.out.trans (hb6.mono HB5.out.size))
          obtain ⟨d, hd⟩ : ∃ d, d = ofN ([109, 103, 101, 116] :: M) := ⟨_, rfl⟩
          rw [← hd] at HO6 f2 f3 ⊢
          clear hN6 hb6 hO CO HB5 hd f1 f4
          obtain ⟨kc, kl, ar, aw, cl⟩ := d
          simp only at f2 f3 ⊢
          subst f3
          obtain ⟨K, hK⟩ : ∃ K, K = M.map (fun a => (⟨a, true, false⟩ : U)) := ⟨_, rfl⟩
          rw [← hK] at f2
          subst f2
          have HKl := Lib.hid (show kl.length = m by rw [hK, List.length_map, HMl.out])
          have HR := Lib.hid (show readsL kl = M by rw [hK]; exact reads_map M false)
          have HW := Lib.hid (show writesL kl = [] by rw [hK]; exact writes_none M true)
          rw [HKl.out]
          simp only [List.length_nil]
          have HO7 := Lib.hid (HO6.out.keep (Kit.below1 w6 (.cells #[.int .i64 kc, .slice qk m ck, .bool ar, .bool aw, .slice qc 0 cc] 27)))
          have HC7 := Lib.hid (NCells.new w6 (.int .i64 kc) (.slice qk m ck) (.bool ar) (.bool aw) (.slice qc 0 cc) w6.heap.size rfl)
          have HB7 := Lib.hid (HB6.out.alloc HB6.out.size (.cells #[.int .i64 kc, .slice qk m ck, .bool ar, .bool aw, .slice qc 0 cc] 27))
          have HL7 := Lib.hid (show w6.heap.size < (w6.alloc (.cells #[.int .i64 kc, .slice qk m ck, .bool ar, .bool aw, .slice qc 0 cc] 27)).heap.size by simp)
          clear hK HO6 HB6
          go_upto_region 11 with fail
          generalize w6.alloc (.cells #[.int .i64 kc, .slice qk m ck, .bool ar, .bool aw, .slice qc 0 cc] 27) = W7 at HO7 HC7 HB7 HL7 ⊢
          have CR := Lib.hid (reads_any qk kl m ck (.int .i64 kc) (.bool ar) (.bool aw) (.slice qc 0 cc) W7 HKl.out HO7.out.u (by omega) (by rw [← HKl.out]; exact HO7.out.c1) HO7.out.c2 HO7.out.c3)
          rw [HR.out] at CR
          obtain ⟨a0, a1, a2, a3, a4⟩ := HC7.out
          go_wp2_with fail
          refine CR.out.mono ?_
          rintro e w8 ⟨v8, rfl, ⟨p8, c8, rfl, hS8, -⟩, hb8⟩
          rw [HMl.out]
          have HB8 := Lib.hid (HB7.out.trans (hb8.mono HB7.out.size))
          have CT := Lib.hid (StrS.same_texts p8 (some ⟨b, off, none⟩) M M m m c8 c w8 HMl.out HMl.out hS8 (HMs.out.keep (HBn.out.trans (HB8.out.mono HBn.out.size))) (by omega))
          rw [decide_eq_true (rfl : M = M)] at CT
          have HC8 := Lib.hid (HC7.out.keep hb8 HL7.out)
          have HL8 := Lib.hid (show w6.heap.size < w8.heap.size by have := hb8.size; have := HL7.out; omega)
          have HO8 := Lib.hid (HO7.out.keep hb8)
          clear hS8 hb8 CR HC7 HL7 HO7 HB7 a0 a1 a2 a3 a4
          go_wp2_with fail
          refine CT.out.mono ?_
          rintro e w9 ⟨rfl, hb9⟩
          have HB9 := Lib.hid (HB8.out.trans (hb9.mono HB8.out.size))
          have CW := Lib.hid (writes_any qk kl m ck (.int .i64 kc) (.bool ar) (.bool aw) (.slice qc 0 cc) w9 HKl.out (HO8.out.u.keep hb9) (by omega) (by rw [← HKl.out]; exact HO8.out.c1) HO8.out.c2 HO8.out.c3)
          rw [HW.out] at CW
          obtain ⟨a0, a1, a2, a3, a4⟩ := HC8.out.keep hb9 HL8.out
          clear hb9 CT HC8 HL8 HO8 HB8
          go_wp2_with fail
          refine CW.out.mono ?_
          rintro e w10 ⟨v10, rfl, ⟨p10, c10, rfl, hS10, -⟩, hb10⟩
          have HBT := Lib.hid (HB9.out.trans (hb10.mono HB9.out.size))
          simp only [List.length_nil]
          clear hS10 hb10 CW HB9 a0 a1 a2 a3 a4
          go_wp2_with fail
          go_roundw
          case rel => exact ⟨1, by omega, by go_num, HBT⟩
          case measure => simp [intOf]
        · have hx3 : ([101, 120, 105, 115, 116, 115] ∈ g3) := by decide
          obtain ⟨f1, f2, f3⟩ := many_of hx3 M (by rw [HMl.out]; omega)
          have f4 : (decide ([101, 120, 105, 115, 116, 115] = nDel)) = false := by decide
          rw [f4] at f2
          have HO1 := Lib.hid (ownS_one wr wr wr.heap.size ⟨#[101, 120, 105, 115, 116, 115]⟩ [101, 120, 105, 115, 116, 115] rfl rfl (Nat.le_refl _))
          have HB1 := Lib.hid (Kit.below1 wr (.cells #[.string ⟨#[101, 120, 105, 115, 116, 115]⟩] 9))
          have HM1 := Lib.hid (HMw.out.keep HB1.out)
          have HSz := Lib.hid (show ([[101, 120, 105, 115, 116, 115]] : List (List UInt8)).length + m ≤ 2097152 by simp; omega)
          have HZ := Lib.hid (show ([101, 120, 105, 115, 116, 115] :: M).length = m + 1 by rw [List.length_cons, HMl.out])
          have hnm := Names.n1 HNw.out
          go_wp2_with (at_builtin; refine wpList_append_ss (w0 := wr) rfl (.tmp 48) (.tmp 49) rfl _ [[101, 120, 105, 115, 116, 115]] rfl HO1.out HB1.out _ M m c rfl HMl.out HM1.out (fun e => by cases e) HSz.out ([101, 120, 105, 115, 116, 115] :: M) rfl ?_; intro v' w5 hown5 hb5; obtain ⟨p5, c5, hv5, hS5, -, e1, e2, e3⟩ := ownS_ans hown5; have CO := Lib.hid (of_any p5 ([101, 120, 105, 115, 116, 115] :: M) (m + 1) c5 w5 HZ.out hS5 (by omega) (by rw [← HZ.out]; exact e1) e2 e3 (by rw [List.getD_cons_zero]; decide)); rw [HZ.out] at hv5; subst hv5; have HB5 := Lib.hid (HB.out.trans (hb5.mono HB.out.size)); clear hown5 hb5 hS5 e1 e2 e3 HO1 HB1 HM1)
          refine CO.out.mono ?_
          rintro e w6 ⟨v6, rfl, hN6, hb6⟩
          obtain ⟨qk, ck, qc, cc, rfl, hO⟩ := need_open hN6
          rw [f1]
          have HO6 := Lib.hid hO
          have HB6 := Lib.hid (HB5.out.trans (hb6.mono HB5.out.size))
          obtain ⟨d, hd⟩ : ∃ d, d = ofN ([101, 120, 105, 115, 116, 115] :: M) := ⟨_, rfl⟩
          rw [← hd] at HO6 f2 f3 ⊢
          clear hN6 hb6 hO CO HB5 hd f1 f4
          obtain ⟨kc, kl, ar, aw, cl⟩ := d
          simp only at f2 f3 ⊢
          subst f3
          obtain ⟨K, hK⟩ : ∃ K, K = M.map (fun a => (⟨a, true, false⟩ : U)) := ⟨_, rfl⟩
          rw [← hK] at f2
          subst f2
          have HKl := Lib.hid (show kl.length = m by rw [hK, List.length_map, HMl.out])
          have HR := Lib.hid (show readsL kl = M by rw [hK]; exact reads_map M false)
          have HW := Lib.hid (show writesL kl = [] by rw [hK]; exact writes_none M true)
          rw [HKl.out]
          simp only [List.length_nil]
          have HO7 := Lib.hid (HO6.out.keep (Kit.below1 w6 (.cells #[.int .i64 kc, .slice qk m ck, .bool ar, .bool aw, .slice qc 0 cc] 27)))
          have HC7 := Lib.hid (NCells.new w6 (.int .i64 kc) (.slice qk m ck) (.bool ar) (.bool aw) (.slice qc 0 cc) w6.heap.size rfl)
          have HB7 := Lib.hid (HB6.out.alloc HB6.out.size (.cells #[.int .i64 kc, .slice qk m ck, .bool ar, .bool aw, .slice qc 0 cc] 27))
          have HL7 := Lib.hid (show w6.heap.size < (w6.alloc (.cells #[.int .i64 kc, .slice qk m ck, .bool ar, .bool aw, .slice qc 0 cc] 27)).heap.size by simp)
          clear hK HO6 HB6
          go_upto_region 11 with fail
          generalize w6.alloc (.cells #[.int .i64 kc, .slice qk m ck, .bool ar, .bool aw, .slice qc 0 cc] 27) = W7 at HO7 HC7 HB7 HL7 ⊢
          have CR := Lib.hid (reads_any qk kl m ck (.int .i64 kc) (.bool ar) (.bool aw) (.slice qc 0 cc) W7 HKl.out HO7.out.u (by omega) (by rw [← HKl.out]; exact HO7.out.c1) HO7.out.c2 HO7.out.c3)
          rw [HR.out] at CR
          obtain ⟨a0, a1, a2, a3, a4⟩ := HC7.out
          go_wp2_with fail
          refine CR.out.mono ?_
          rintro e w8 ⟨v8, rfl, ⟨p8, c8, rfl, hS8, -⟩, hb8⟩
          rw [HMl.out]
          have HB8 := Lib.hid (HB7.out.trans (hb8.mono HB7.out.size))
          have CT := Lib.hid (StrS.same_texts p8 (some ⟨b, off, none⟩) M M m m c8 c w8 HMl.out HMl.out hS8 (HMs.out.keep (HBn.out.trans (HB8.out.mono HBn.out.size))) (by omega))
          rw [decide_eq_true (rfl : M = M)] at CT
          have HC8 := Lib.hid (HC7.out.keep hb8 HL7.out)
          have HL8 := Lib.hid (show w6.heap.size < w8.heap.size by have := hb8.size; have := HL7.out; omega)
          have HO8 := Lib.hid (HO7.out.keep hb8)
          clear hS8 hb8 CR HC7 HL7 HO7 HB7 a0 a1 a2 a3 a4
          go_wp2_with fail
          refine CT.out.mono ?_
          rintro e w9 ⟨rfl, hb9⟩
          have HB9 := Lib.hid (HB8.out.trans (hb9.mono HB8.out.size))
          have CW := Lib.hid (writes_any qk kl m ck (.int .i64 kc) (.bool ar) (.bool aw) (.slice qc 0 cc) w9 HKl.out (HO8.out.u.keep hb9) (by omega) (by rw [← HKl.out]; exact HO8.out.c1) HO8.out.c2 HO8.out.c3)
          rw [HW.out] at CW
          obtain ⟨a0, a1, a2, a3, a4⟩ := HC8.out.keep hb9 HL8.out
          clear hb9 CT HC8 HL8 HO8 HB8
          go_wp2_with fail
          refine CW.out.mono ?_
          rintro e w10 ⟨v10, rfl, ⟨p10, c10, rfl, hS10, -⟩, hb10⟩
          have HBT := Lib.hid (HB9.out.trans (hb10.mono HB9.out.size))
          simp only [List.length_nil]
          clear hS10 hb10 CW HB9 a0 a1 a2 a3 a4
          go_wp2_with fail
          go_roundw
          case rel => exact ⟨2, by omega, by go_num, HBT⟩
          case measure => simp [intOf]
        · have hx3 : ([100, 101, 108] ∈ g3) := by decide
          obtain ⟨f1, f2, f3⟩ := many_of hx3 M (by rw [HMl.out]; omega)
          have f4 : (decide ([100, 101, 108] = nDel)) = true := by decide
          rw [f4] at f2
          have HO1 := Lib.hid (ownS_one wr wr wr.heap.size ⟨#[100, 101, 108]⟩ [100, 101, 108] rfl rfl (Nat.le_refl _))
          have HB1 := Lib.hid (Kit.below1 wr (.cells #[.string ⟨#[100, 101, 108]⟩] 9))
          have HM1 := Lib.hid (HMw.out.keep HB1.out)
          have HSz := Lib.hid (show ([[100, 101, 108]] : List (List UInt8)).length + m ≤ 2097152 by simp; omega)
          have HZ := Lib.hid (show ([100, 101, 108] :: M).length = m + 1 by rw [List.length_cons, HMl.out])
          have hnm := Names.n2 HNw.out
          go_wp2_with (at_builtin; refine wpList_append_ss (w0 := wr) rfl (.tmp 48) (.tmp 49) rfl _ [[100, 101, 108]] rfl HO1.out HB1.out _ M m c rfl HMl.out HM1.out (fun e => by cases e) HSz.out ([100, 101, 108] :: M) rfl ?_; intro v' w5 hown5 hb5; obtain ⟨p5, c5, hv5, hS5, -, e1, e2, e3⟩ := ownS_ans hown5; have CO := Lib.hid (of_any p5 ([100, 101, 108] :: M) (m + 1) c5 w5 HZ.out hS5 (by omega) (by rw [← HZ.out]; exact e1) e2 e3 (by rw [List.getD_cons_zero]; decide)); rw [HZ.out] at hv5; subst hv5; have HB5 := Lib.hid (HB.out.trans (hb5.mono HB.out.size)); clear hown5 hb5 hS5 e1 e2 e3 HO1 HB1 HM1)
          refine CO.out.mono ?_
          rintro e w6 ⟨v6, rfl, hN6, hb6⟩
          obtain ⟨qk, ck, qc, cc, rfl, hO⟩ := need_open hN6
          rw [f1]
          have HO6 := Lib.hid hO
          have HB6 := Lib.hid (HB5.out.trans (hb6.mono HB5.out.size))
          obtain ⟨d, hd⟩ : ∃ d, d = ofN ([100, 101, 108] :: M) := ⟨_, rfl⟩
          rw [← hd] at HO6 f2 f3 ⊢
          clear hN6 hb6 hO CO HB5 hd f1 f4
          obtain ⟨kc, kl, ar, aw, cl⟩ := d
          simp only at f2 f3 ⊢
          subst f3
          obtain ⟨K, hK⟩ : ∃ K, K = M.map (fun a => (⟨a, true, true⟩ : U)) := ⟨_, rfl⟩
          rw [← hK] at f2
          subst f2
          have HKl := Lib.hid (show kl.length = m by rw [hK, List.length_map, HMl.out])
          have HR := Lib.hid (show readsL kl = M by rw [hK]; exact reads_map M true)
          have HW := Lib.hid (show writesL kl = M by rw [hK]; exact writes_map M true)
          rw [HKl.out]
          simp only [List.length_nil]
          have HO7 := Lib.hid (HO6.out.keep (Kit.below1 w6 (.cells #[.int .i64 kc, .slice qk m ck, .bool ar, .bool aw, .slice qc 0 cc] 27)))
          have HC7 := Lib.hid (NCells.new w6 (.int .i64 kc) (.slice qk m ck) (.bool ar) (.bool aw) (.slice qc 0 cc) w6.heap.size rfl)
          have HB7 := Lib.hid (HB6.out.alloc HB6.out.size (.cells #[.int .i64 kc, .slice qk m ck, .bool ar, .bool aw, .slice qc 0 cc] 27))
          have HL7 := Lib.hid (show w6.heap.size < (w6.alloc (.cells #[.int .i64 kc, .slice qk m ck, .bool ar, .bool aw, .slice qc 0 cc] 27)).heap.size by simp)
          clear hK HO6 HB6
          go_upto_region 11 with fail
          generalize w6.alloc (.cells #[.int .i64 kc, .slice qk m ck, .bool ar, .bool aw, .slice qc 0 cc] 27) = W7 at HO7 HC7 HB7 HL7 ⊢
          have CR := Lib.hid (reads_any qk kl m ck (.int .i64 kc) (.bool ar) (.bool aw) (.slice qc 0 cc) W7 HKl.out HO7.out.u (by omega) (by rw [← HKl.out]; exact HO7.out.c1) HO7.out.c2 HO7.out.c3)
          rw [HR.out] at CR
          obtain ⟨a0, a1, a2, a3, a4⟩ := HC7.out
          go_wp2_with fail
          refine CR.out.mono ?_
          rintro e w8 ⟨v8, rfl, ⟨p8, c8, rfl, hS8, -⟩, hb8⟩
          rw [HMl.out]
          have HB8 := Lib.hid (HB7.out.trans (hb8.mono HB7.out.size))
          have CT := Lib.hid (StrS.same_texts p8 (some ⟨b, off, none⟩) M M m m c8 c w8 HMl.out HMl.out hS8 (HMs.out.keep (HBn.out.trans (HB8.out.mono HBn.out.size))) (by omega))
          rw [decide_eq_true (rfl : M = M)] at CT
          have HC8 := Lib.hid (HC7.out.keep hb8 HL7.out)
          have HL8 := Lib.hid (show w6.heap.size < w8.heap.size by have := hb8.size; have := HL7.out; omega)
          have HO8 := Lib.hid (HO7.out.keep hb8)
          clear hS8 hb8 CR HC7 HL7 HO7 HB7 a0 a1 a2 a3 a4
          go_wp2_with fail
          refine CT.out.mono ?_
          rintro e w9 ⟨rfl, hb9⟩
          have HB9 := Lib.hid (HB8.out.trans (hb9.mono HB8.out.size))
          have CW := Lib.hid (writes_any qk kl m ck (.int .i64 kc) (.bool ar) (.bool aw) (.slice qc 0 cc) w9 HKl.out (HO8.out.u.keep hb9) (by omega) (by rw [← HKl.out]; exact HO8.out.c1) HO8.out.c2 HO8.out.c3)
          rw [HW.out] at CW
          obtain ⟨a0, a1, a2, a3, a4⟩ := HC8.out.keep hb9 HL8.out
          clear hb9 CT HC8 HL8 HO8 HB8
          go_wp2_with fail
          refine CW.out.mono ?_
          rintro e w10 ⟨v10, rfl, ⟨p10, c10, rfl, hS10, -⟩, hb10⟩
          have HBT := Lib.hid (HB9.out.trans (hb10.mono HB9.out.size))
          rw [HMl.out]
          have hpos : decide ((0 : Int) < (m : Int)) = true := decide_eq_true (by omega)
          have hposn : decide (0 < m) = true := decide_eq_true (by omega)
          have hposm : 0 < m := by omega
          clear hS10 hb10 CW HB9 a0 a1 a2 a3 a4
          go_wp2_with fail
          go_roundw
          case rel => exact ⟨3, by omega, by go_num, HBT⟩
          case measure => simp [intOf]
        · have hx3 : ([119, 97, 116, 99, 104] ∈ g3) := by decide
          obtain ⟨f1, f2, f3⟩ := many_of hx3 M (by rw [HMl.out]; omega)
          have f4 : (decide ([119, 97, 116, 99, 104] = nDel)) = false := by decide
          rw [f4] at f2
          have HO1 := Lib.hid (ownS_one wr wr wr.heap.size ⟨#[119, 97, 116, 99, 104]⟩ [119, 97, 116, 99, 104] rfl rfl (Nat.le_refl _))
          have HB1 := Lib.hid (Kit.below1 wr (.cells #[.string ⟨#[119, 97, 116, 99, 104]⟩] 9))
          have HM1 := Lib.hid (HMw.out.keep HB1.out)
          have HSz := Lib.hid (show ([[119, 97, 116, 99, 104]] : List (List UInt8)).length + m ≤ 2097152 by simp; omega)
          have HZ := Lib.hid (show ([119, 97, 116, 99, 104] :: M).length = m + 1 by rw [List.length_cons, HMl.out])
          have hnm := Names.n3 HNw.out
          go_wp2_with (at_builtin; refine wpList_append_ss (w0 := wr) rfl (.tmp 48) (.tmp 49) rfl _ [[119, 97, 116, 99, 104]] rfl HO1.out HB1.out _ M m c rfl HMl.out HM1.out (fun e => by cases e) HSz.out ([119, 97, 116, 99, 104] :: M) rfl ?_; intro v' w5 hown5 hb5; obtain ⟨p5, c5, hv5, hS5, -, e1, e2, e3⟩ := ownS_ans hown5; have CO := Lib.hid (of_any p5 ([119, 97, 116, 99, 104] :: M) (m + 1) c5 w5 HZ.out hS5 (by omega) (by rw [← HZ.out]; exact e1) e2 e3 (by rw [List.getD_cons_zero]; decide)); rw [HZ.out] at hv5; subst hv5; have HB5 := Lib.hid (HB.out.trans (hb5.mono HB.out.size)); clear hown5 hb5 hS5 e1 e2 e3 HO1 HB1 HM1)
          refine CO.out.mono ?_
          rintro e w6 ⟨v6, rfl, hN6, hb6⟩
          obtain ⟨qk, ck, qc, cc, rfl, hO⟩ := need_open hN6
          rw [f1]
          have HO6 := Lib.hid hO
          have HB6 := Lib.hid (HB5.out.trans (hb6.mono HB5.out.size))
          obtain ⟨d, hd⟩ : ∃ d, d = ofN ([119, 97, 116, 99, 104] :: M) := ⟨_, rfl⟩
          rw [← hd] at HO6 f2 f3 ⊢
          clear hN6 hb6 hO CO HB5 hd f1 f4
          obtain ⟨kc, kl, ar, aw, cl⟩ := d
          simp only at f2 f3 ⊢
          subst f3
          obtain ⟨K, hK⟩ : ∃ K, K = M.map (fun a => (⟨a, true, false⟩ : U)) := ⟨_, rfl⟩
          rw [← hK] at f2
          subst f2
          have HKl := Lib.hid (show kl.length = m by rw [hK, List.length_map, HMl.out])
          have HR := Lib.hid (show readsL kl = M by rw [hK]; exact reads_map M false)
          have HW := Lib.hid (show writesL kl = [] by rw [hK]; exact writes_none M true)
          rw [HKl.out]
          simp only [List.length_nil]
          have HO7 := Lib.hid (HO6.out.keep (Kit.below1 w6 (.cells #[.int .i64 kc, .slice qk m ck, .bool ar, .bool aw, .slice qc 0 cc] 27)))
          have HC7 := Lib.hid (NCells.new w6 (.int .i64 kc) (.slice qk m ck) (.bool ar) (.bool aw) (.slice qc 0 cc) w6.heap.size rfl)
          have HB7 := Lib.hid (HB6.out.alloc HB6.out.size (.cells #[.int .i64 kc, .slice qk m ck, .bool ar, .bool aw, .slice qc 0 cc] 27))
          have HL7 := Lib.hid (show w6.heap.size < (w6.alloc (.cells #[.int .i64 kc, .slice qk m ck, .bool ar, .bool aw, .slice qc 0 cc] 27)).heap.size by simp)
          clear hK HO6 HB6
          go_upto_region 11 with fail
          generalize w6.alloc (.cells #[.int .i64 kc, .slice qk m ck, .bool ar, .bool aw, .slice qc 0 cc] 27) = W7 at HO7 HC7 HB7 HL7 ⊢
          have CR := Lib.hid (reads_any qk kl m ck (.int .i64 kc) (.bool ar) (.bool aw) (.slice qc 0 cc) W7 HKl.out HO7.out.u (by omega) (by rw [← HKl.out]; exact HO7.out.c1) HO7.out.c2 HO7.out.c3)
          rw [HR.out] at CR
          obtain ⟨a0, a1, a2, a3, a4⟩ := HC7.out
          go_wp2_with fail
          refine CR.out.mono ?_
          rintro e w8 ⟨v8, rfl, ⟨p8, c8, rfl, hS8, -⟩, hb8⟩
          rw [HMl.out]
          have HB8 := Lib.hid (HB7.out.trans (hb8.mono HB7.out.size))
          have CT := Lib.hid (StrS.same_texts p8 (some ⟨b, off, none⟩) M M m m c8 c w8 HMl.out HMl.out hS8 (HMs.out.keep (HBn.out.trans (HB8.out.mono HBn.out.size))) (by omega))
          rw [decide_eq_true (rfl : M = M)] at CT
          have HC8 := Lib.hid (HC7.out.keep hb8 HL7.out)
          have HL8 := Lib.hid (show w6.heap.size < w8.heap.size by have := hb8.size; have := HL7.out; omega)
          have HO8 := Lib.hid (HO7.out.keep hb8)
          clear hS8 hb8 CR HC7 HL7 HO7 HB7 a0 a1 a2 a3 a4
          go_wp2_with fail
          refine CT.out.mono ?_
          rintro e w9 ⟨rfl, hb9⟩
          have HB9 := Lib.hid (HB8.out.trans (hb9.mono HB8.out.size))
          have CW := Lib.hid (writes_any qk kl m ck (.int .i64 kc) (.bool ar) (.bool aw) (.slice qc 0 cc) w9 HKl.out (HO8.out.u.keep hb9) (by omega) (by rw [← HKl.out]; exact HO8.out.c1) HO8.out.c2 HO8.out.c3)
          rw [HW.out] at CW
          obtain ⟨a0, a1, a2, a3, a4⟩ := HC8.out.keep hb9 HL8.out
          clear hb9 CT HC8 HL8 HO8 HB8
          go_wp2_with fail
          refine CW.out.mono ?_
          rintro e w10 ⟨v10, rfl, ⟨p10, c10, rfl, hS10, -⟩, hb10⟩
          have HBT := Lib.hid (HB9.out.trans (hb10.mono HB9.out.size))
          simp only [List.length_nil]
          clear hS10 hb10 CW HB9 a0 a1 a2 a3 a4
          go_wp2_with fail
          go_roundw
          case rel => exact ⟨4, by omega, by go_num, HBT⟩
          case measure => simp [intOf]
      · have d4 : decide ((j : Int) < 4) = false := decide_eq_false (by omega)
        clear hj4 hj
        obtain ⟨wz, hwz⟩ : ∃ wz, wz = wr := ⟨_, rfl⟩
        subst hwz
        have HBw := Lib.hid (HBn.out.trans (HB.out.mono HBn.out.size))
        have HO1 := Lib.hid (ownS_one wz wz wz.heap.size ⟨#[109, 115, 101, 116]⟩ nMset rfl rfl (Nat.le_refl _))
        have HB1 := Lib.hid (Kit.below1 wz (.cells #[.string ⟨#[109, 115, 101, 116]⟩] 9))
        clear HNw HB
        go_wp2_with fail
        go_loopw [12, 13] (fun v i wx => ∃ j : Nat, j ≤ m ∧ i = .int .i64 j ∧ Hid (OwnS wz.heap.size wx v (nMset :: prs (M.take j))) ∧ Hid (Below wz.heap.size wz wx)) (fun _ i _ => m - (intOf i).toNat)
        case atStart => exact ⟨0, Nat.zero_le _, rfl, HO1, HB1⟩
        case round =>
          clear HO1 HB1
          obtain ⟨j, hj, rfl, HOw, HB⟩ := hrel
          by_cases hlt : j < m
          · have e1 : decide ((j : Int) < (m : Int)) = true := decide_eq_true (by omega)
            have hj0 : (0 : Int) ≤ (j : Int) := by omega
            have hjm : (j : Int) < (m : Int) := by omega
            have hjl : j < M.length := by rw [HMl.out]; exact hlt
            obtain ⟨b', off', e0, hbl, hcl⟩ := (HMw.out.keep HB.out) (by omega)
            injection e0 with e0
            injection e0 with e2 e3 e4
            subst e2 e3
            have hu := hcl j hjl
            obtain ⟨T, hT⟩ : ∃ T : ByteArray, T = ⟨M[j].toArray⟩ := ⟨_, rfl⟩
            have HTd := Lib.hid (show T.data.toList = M[j] by rw [hT])
            rw [← hT] at hu
            clear hT hcl e4
            have HZ := Lib.hid (show nMset :: prs (M.take (j + 1)) = (nMset :: prs (M.take j)) ++ [T.data.toList, [118]] by
              rw [List.take_succ_eq_append_getElem hjl, prs_snoc, HTd.out]
              rfl)
            have HO2 := Lib.hid (HOw.out.keep (Kit.below1 wr (.cells #[.string T, .string ⟨#[118]⟩] 9)))
            have HB2 := Lib.hid (HB.out.alloc HB.out.size (.cells #[.string T, .string ⟨#[118]⟩] 9))
            have HS2 := Lib.hid (two_words wr _ wr.heap.size T ⟨#[118]⟩ [T.data.toList, [118]] rfl rfl rfl)
            have HSz := Lib.hid (show (nMset :: prs (M.take j)).length + 2 ≤ 2097152 by rw [List.length_cons, prs_len, List.length_take]; omega)
            go_wp2_with (at_builtin; refine wpList_append_ss (w0 := wz) rfl (.tmp 80) (.tmp 85) rfl _ (nMset :: prs (M.take j)) rfl HO2.out HB2.out _ [T.data.toList, [118]] 2 2 rfl rfl HS2.out (fun e => by cases e) HSz.out _ HZ.out ?_; intro v' w5 hown5 hb5)
            go_roundw
            case rel => exact ⟨j + 1, by omega, by go_num, Lib.hid hown5, Lib.hid hb5⟩
            case measure => simp [intOf]; omega
          · obtain rfl : j = m := by omega
            have e1 : decide ((j : Int) < (j : Int)) = false := decide_eq_false (by omega)
            obtain ⟨p5, c5, hv5, hS5, -, f1, f2, f3⟩ := ownS_ans HOw.out
            rw [List.take_of_length_le (by rw [HMl.out]; exact Nat.le_refl _)] at hv5 hS5 f1
            obtain ⟨P, hP⟩ : ∃ P, P = nMset :: prs M := ⟨_, rfl⟩
            have hPl : P.length = 2 * j + 1 := by rw [hP, List.length_cons, prs_len, HMl.out]
            have hP0 : P.getD 0 [] = nMset := by rw [hP]; rfl
            obtain ⟨y1, y2, y3⟩ := set_of M (by rw [HMl.out]; omega)
            have y4 := set_less M (by rw [HMl.out]; omega)
            rw [← hP] at hv5 hS5 f1 y1 y2 y3 y4
            rw [HMl.out] at y4
            rw [hPl] at hv5 f1
            subst hv5
            have CO := Lib.hid (of_any p5 P (2 * j + 1) c5 wr hPl hS5 (by omega) f1 f2 f3 (by rw [hP0]; decide))
            have CO2 := Lib.hid (fun W (hb : Below wr.heap.size wr W) => of_any p5 (P.take (2 * j)) (2 * j) c5 W (by rw [List.length_take, hPl]; omega) ((hS5.keep hb).take (2 * j)) (by omega) (by omega) f2 f3 (by
              obtain ⟨jj, hjj⟩ : ∃ jj, 2 * j = jj + 1 := ⟨2 * j - 1, by omega⟩
              rw [hjj, List.getD_eq_getElem?_getD, List.getElem?_take, if_pos (by omega), ← List.getD_eq_getElem?_getD, hP0]
              decide))
            unfold OfP at CO CO2
            rw [y1] at CO
            rw [y4] at CO2
            obtain ⟨d, hd⟩ : ∃ d, d = ofN P := ⟨_, rfl⟩
            rw [← hd] at CO y2 y3
            obtain ⟨d2, hd2⟩ : ∃ d2, d2 = ofN (P.take (2 * j)) := ⟨_, rfl⟩
            rw [← hd2] at CO2
            have HBx := Lib.hid (HBw.out.trans (HB.out.mono HBw.out.size))
            have hl1 : ((2 * j + 1 : Nat) : Int) - 1 = ((2 * j : Nat) : Int) := by omega
            obtain ⟨l, hl⟩ : ∃ l, l = 2 * j + 1 := ⟨_, rfl⟩
            obtain ⟨l2, hl2⟩ : ∃ l2, l2 = 2 * j := ⟨_, rfl⟩
            rw [← hl] at CO hl1 f1 ⊢
            rw [← hl2] at CO2 hl1
            have hlc : (l2 : Int) ≤ (c5 : Int) := by omega
            have hl0 : (0 : Int) ≤ (l : Int) - 1 := by omega
            have hlw : IntKind.i64.wrap ((l : Int) - 1) = (l2 : Int) := by rw [hl1]; exact wrap_small _ (by omega) (by omega)
            clear hP hPl hP0 y1 y4 hd hd2 hS5 HOw
            have HWr := Lib.hid (writes_map M false)
            have HRd := Lib.hid (reads_none M true)
            have hl2b : l2 ≤ 20 := by omega
            clear e1 f1 f2 f3 hl hl2
            go_wp2_with fail
            refine CO.out.mono ?_
            rintro e w6 ⟨v6, rfl, hN6, hb6⟩
            obtain ⟨qk, ck, qc, cc, rfl, hO⟩ := need_open hN6
            have HO6 := Lib.hid hO
            have HB6 := Lib.hid (HBx.out.trans (hb6.mono HBx.out.size))
            have HBz := Lib.hid hb6
            clear hN6 hb6 hO CO
            obtain ⟨kc, kl, ar, aw, cl⟩ := d
            simp only at y2 y3 ⊢
            subst y3
            subst y2
            obtain ⟨K, hK⟩ : ∃ K, K = M.map (fun a => (⟨a, false, true⟩ : U)) := ⟨_, rfl⟩
            rw [← hK] at HO6 HWr HRd ⊢
            have HKl := Lib.hid (show K.length = j by rw [hK, List.length_map, HMl.out])
            rw [HKl.out]
            simp only [List.length_nil]
            have HO7 := Lib.hid (HO6.out.keep (Kit.below1 w6 (.cells #[.int .i64 kc, .slice qk j ck, .bool ar, .bool aw, .slice qc 0 cc] 27)))
            have HC7 := Lib.hid (NCells.new w6 (.int .i64 kc) (.slice qk j ck) (.bool ar) (.bool aw) (.slice qc 0 cc) w6.heap.size rfl)
            have HB7 := Lib.hid (HB6.out.alloc HB6.out.size (.cells #[.int .i64 kc, .slice qk j ck, .bool ar, .bool aw, .slice qc 0 cc] 27))
            have HBz7 := Lib.hid (HBz.out.alloc HBz.out.size (.cells #[.int .i64 kc, .slice qk j ck, .bool ar, .bool aw, .slice qc 0 cc] 27))
            have HL7 := Lib.hid (show w6.heap.size < (w6.alloc (.cells #[.int .i64 kc, .slice qk j ck, .bool ar, .bool aw, .slice qc 0 cc] 27)).heap.size by simp)
            clear hK HO6 HB6 HBz
            go_upto_region 20 with fail
            generalize w6.alloc (.cells #[.int .i64 kc, .slice qk j ck, .bool ar, .bool aw, .slice qc 0 cc] 27) = W7 at HO7 HC7 HB7 HBz7 HL7 ⊢
            have CO7 := Lib.hid (CO2.out W7 HBz7.out)
            have q1 : wrap64 (l2 : Int) = (l2 : Int) := wrap64_small _ (by omega) (by omega)
            clear CO2 HBz7
            go_wp2_with fail
            with_reducible refine CO7.out.mono ?_
            rintro e w8 ⟨v8, rfl, hN8, hb8⟩
            obtain ⟨xk, xc, xq, xx, rfl, hO⟩ := need_open hN8
            clear hO hN8
            obtain ⟨kc2, kl2, ar2, aw2, cl2⟩ := d2
            simp only
            obtain ⟨nk2, hnk2⟩ : ∃ nk2, nk2 = kl2.length := ⟨_, rfl⟩
            obtain ⟨nc2, hnc2⟩ : ∃ nc2, nc2 = cl2.length := ⟨_, rfl⟩
            rw [← hnk2, ← hnc2]
            have HB8 := Lib.hid (HB7.out.trans (hb8.mono HB7.out.size))
            have HB9 := Lib.hid (HB8.out.alloc HB8.out.size (.cells #[.int .i64 kc2, .slice xk nk2 xc, .bool ar2, .bool aw2, .slice xq nc2 xx] 27))
            have HO9 := Lib.hid ((HO7.out.keep hb8).keep (Kit.below1 w8 (.cells #[.int .i64 kc2, .slice xk nk2 xc, .bool ar2, .bool aw2, .slice xq nc2 xx] 27)))
            have HC9 := Lib.hid ((HC7.out.keep hb8 HL7.out).keep (Kit.below1 w8 (.cells #[.int .i64 kc2, .slice xk nk2 xc, .bool ar2, .bool aw2, .slice xq nc2 xx] 27)) (by have := hb8.size; have := HL7.out; omega))
            have HL9 := Lib.hid (show w6.heap.size < (w8.alloc (.cells #[.int .i64 kc2, .slice xk nk2 xc, .bool ar2, .bool aw2, .slice xq nc2 xx] 27)).heap.size by have := hb8.size; have := HL7.out; simp; omega)
            clear hb8 HO7 HC7 HB7 HL7 HB8 CO7 hnk2 hnc2 q1
            go_upto_region 21 with fail
            generalize w8.alloc (.cells #[.int .i64 kc2, .slice xk nk2 xc, .bool ar2, .bool aw2, .slice xq nc2 xx] 27) = W9 at HB9 HO9 HC9 HL9 ⊢
            have CW := Lib.hid (writes_any qk K j ck (.int .i64 kc) (.bool ar) (.bool aw) (.slice qc 0 cc) W9 HKl.out HO9.out.u (by omega) (by rw [← HKl.out]; exact HO9.out.c1) HO9.out.c2 HO9.out.c3)
            rw [HWr.out] at CW
            obtain ⟨a0, a1, a2, a3, a4⟩ := HC9.out
            go_wp2_with fail
            refine CW.out.mono ?_
            rintro e w10 ⟨v10, rfl, ⟨p10, c10, rfl, hS10, -⟩, hb10⟩
            rw [HMl.out]
            have HB10 := Lib.hid (HB9.out.trans (hb10.mono HB9.out.size))
            have CT := Lib.hid (StrS.same_texts p10 (some ⟨b, off, none⟩) M M j j c10 c w10 HMl.out HMl.out hS10 (HMs.out.keep HB10.out) (by omega))
            rw [decide_eq_true (rfl : M = M)] at CT
            have HC10 := Lib.hid (HC9.out.keep hb10 HL9.out)
            have HL10 := Lib.hid (show w6.heap.size < w10.heap.size by have := hb10.size; have := HL9.out; omega)
            have HO10 := Lib.hid (HO9.out.keep hb10)
            clear hS10 hb10 CW HC9 HL9 HO9 HB9 a0 a1 a2 a3 a4
            go_wp2_with fail
            refine CT.out.mono ?_
            rintro e w11 ⟨rfl, hb11⟩
            have HB11 := Lib.hid (HB10.out.trans (hb11.mono HB10.out.size))
            have CR := Lib.hid (reads_any qk K j ck (.int .i64 kc) (.bool ar) (.bool aw) (.slice qc 0 cc) w11 HKl.out (HO10.out.u.keep hb11) (by omega) (by rw [← HKl.out]; exact HO10.out.c1) HO10.out.c2 HO10.out.c3)
            rw [HRd.out] at CR
            obtain ⟨a0, a1, a2, a3, a4⟩ := HC10.out.keep hb11 HL10.out
            clear hb11 CT HC10 HL10 HO10 HB10
            go_wp2_with fail
            refine CR.out.mono ?_
            rintro e w12 ⟨v12, rfl, ⟨p12, c12, rfl, hS12, -⟩, hb12⟩
            have HBT := Lib.hid (HB11.out.trans (hb12.mono HB11.out.size))
            simp only [List.length_nil]
            clear hS12 hb12 CR HB11 a0 a1 a2 a3 a4
            go_wp2_with fail
            go_ret
            exact ⟨rfl, HBT.out⟩

end Go.Proofs.Ytonoelpmmjnpeaa.usesMany
