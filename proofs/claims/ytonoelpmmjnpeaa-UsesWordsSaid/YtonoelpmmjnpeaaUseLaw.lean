/-
  The document's examples of layer 8, and 'few', over the contracts of the landed code.
-/
import Derived.Test.YtonoelpmmjnpeaaUseCode
import Derived.Test.YtonoelpmmjnpeaaStrApp
import Derived.StillTailTactics
namespace Go.Proofs.Ytonoelpmmjnpeaa.UseL
open Go.RowKit Kit StrT UseT TableMath Low UseM RefU
set_option linter.unusedVariables false
set_option maxRecDepth 100000

/-- Three words just laid. -/
theorem three (w W : World) (k : Nat) (L : List (List UInt8)) (a b c : ByteArray) (hW : W = w.alloc (.cells #[.string a, .string b, .string c] 9)) (hk : k = w.heap.size) (hL : L = [a.data.toList, b.data.toList, c.data.toList]) : Ss W (some ⟨k, 0, none⟩) L := by
  subst hW hk hL
  intro _
  refine ⟨_, 0, rfl, by simp, fun j hj => ?_⟩
  rw [cell_of_row _ _ _ _ 9 _ (heap_alloc_last w _)]
  match j, hj with
  | 0, _ => rfl
  | 1, _ => rfl
  | 2, _ => rfl
  | j + 3, hj => exact absurd hj (by simp)
theorem ex1 : ofE [[115, 101, 116], [97], [49]] = 0 ∧ ofN [[115, 101, 116], [97], [49]] = ⟨1, [⟨[97], false, true⟩], false, false, []⟩ := by
  have h1 : ofE [[115, 101, 116], [97], [49]] = 0 := by decide +kernel
  refine ⟨h1, ?_⟩
  rfl
theorem ex2 : ofE [[114, 101, 110, 97, 109, 101], [97], [98]] = 0 ∧ (ofN [[114, 101, 110, 97, 109, 101], [97], [98]]).keys = [⟨[97], true, true⟩, ⟨[98], false, true⟩] := by
  have h1 : ofE [[114, 101, 110, 97, 109, 101], [97], [98]] = 0 := by decide +kernel
  refine ⟨h1, ?_⟩
  rfl
/-- A need, opened. -/
structure NOpen (base : Nat) (w : World) (d : Nd) (qk qc : Option Addr) (ck cc : Nat) : Prop where
  u : Us w qk d.keys
  s : Ss w qc d.ch
  ku : ∀ a, qk = some a → base ≤ a.block
  ks : ∀ a, qc = some a → base ≤ a.block
  c1 : d.keys.length ≤ ck
  c2 : ck ≤ 9223372036854775807
  c3 : qk = none → ck = 0
  e1 : d.ch.length ≤ cc
  e2 : cc ≤ 9223372036854775807
  e3 : qc = none → cc = 0
theorem need_open {base : Nat} {w : World} {v : Value} {d : Nd} (h : NeedA base w v d) : ∃ qk ck qc cc, v = .agg #[.int .i64 d.cmd, .slice qk d.keys.length ck, .bool d.ar, .bool d.aw, .slice qc d.ch.length cc] ∧ NOpen base w d qk qc ck cc := by
  obtain ⟨vk, vc, rfl, ⟨qk, ck, rfl, h1, h2, h3, h4, h5⟩, ⟨qc, cc, rfl, k1, k2, k3, k4, k5⟩⟩ := h
  exact ⟨qk, ck, qc, cc, rfl, ⟨h1, k1, h2, k2, h3, h4, h5, k3, k4, k5⟩⟩
theorem NOpen.keep {base : Nat} {w w' : World} {d : Nd} {qk qc : Option Addr} {ck cc : Nat} (h : NOpen base w d qk qc ck cc) (hb : Below w.heap.size w w') : NOpen base w' d qk qc ck cc :=
  ⟨h.u.keep hb, h.s.keep hb, h.ku, h.ks, h.c1, h.c2, h.c3, h.e1, h.e2, h.e3⟩
set_option maxHeartbeats 2000000 in
theorem shown_any (w : World) : Calls Try.prog 8 #[] w fun e w' => e = .returned (.bool true) ∧ Below w.heap.size w w' := by
  have C1 := Lib.hid (of_any (some ⟨w.heap.size, 0, none⟩) [[115, 101, 116], [97], [49]] 3 3 (w.alloc (.cells #[.string ⟨#[115, 101, 116]⟩, .string ⟨#[97]⟩, .string ⟨#[49]⟩] 9)) rfl (three w _ _ _ _ _ _ rfl rfl rfl) (by decide) (by decide) (by decide) (fun h => by cases h) (by decide))
  have C2 := Lib.hid (fun (W : World) (k : Nat) (hk : k = W.heap.size) => of_any (some ⟨k, 0, none⟩) [[114, 101, 110, 97, 109, 101], [97], [98]] 3 3 (W.alloc (.cells #[.string ⟨#[114, 101, 110, 97, 109, 101]⟩, .string ⟨#[97]⟩, .string ⟨#[98]⟩] 9)) rfl (three W _ _ _ _ _ _ rfl hk rfl) (by decide) (by decide) (by decide) (fun h => by cases h) (by decide))
  have HB1 := Lib.hid (Kit.below1 w (.cells #[.string ⟨#[115, 101, 116]⟩, .string ⟨#[97]⟩, .string ⟨#[49]⟩] 9))
  go_enter Try.func8, Try.ntmps8
  go_wp2_with fail
  refine C1.out.mono ?_
  rintro e w1 ⟨v, rfl, hN, hb1⟩
  rw [ex1.2] at hN
  rw [ex1.1]
  obtain ⟨qk, ck, qc, cc, rfl, hO⟩ := need_open hN
  obtain ⟨b, off, rfl, hbl, hu0, hu1, hu2⟩ := hO.u.cells 0 (by decide)
  have HB2 := Lib.hid (HB1.out.trans (hb1.mono HB1.out.size))
  have HU := Lib.hid hO.u
  clear hN hb1 HB1 C1 hO hu0 hu1 hu2
  simp only [List.length_cons, List.length_nil]
  have HB3 := Lib.hid ((HB2.out.alloc HB2.out.size (.cells #[.int .i64 1, .slice (some ⟨b, off, none⟩) 1 ck, .bool false, .bool false, .slice qc 0 cc] 27)).alloc (by have := HB2.out.size; simp; omega) (.cells #[.string ⟨#[114, 101, 110, 97, 109, 101]⟩, .string ⟨#[97]⟩, .string ⟨#[98]⟩] 9))
  have HN1 := Lib.hid ((NCells.new w1 (.int .i64 1) (.slice (some ⟨b, off, none⟩) 1 ck) (.bool false) (.bool false) (.slice qc 0 cc) w1.heap.size rfl).keep (Kit.below1 _ (.cells #[.string ⟨#[114, 101, 110, 97, 109, 101]⟩, .string ⟨#[97]⟩, .string ⟨#[98]⟩] 9)) (by simp))
  have HU2 := Lib.hid ((HU.out.keep (Kit.below1 w1 (.cells #[.int .i64 1, .slice (some ⟨b, off, none⟩) 1 ck, .bool false, .bool false, .slice qc 0 cc] 27))).keep (Kit.below1 _ (.cells #[.string ⟨#[114, 101, 110, 97, 109, 101]⟩, .string ⟨#[97]⟩, .string ⟨#[98]⟩] 9)))
  have HLt := Lib.hid (show w1.heap.size < ((w1.alloc (.cells #[.int .i64 1, .slice (some ⟨b, off, none⟩) 1 ck, .bool false, .bool false, .slice qc 0 cc] 27)).alloc (.cells #[.string ⟨#[114, 101, 110, 97, 109, 101]⟩, .string ⟨#[97]⟩, .string ⟨#[98]⟩] 9)).heap.size by simp; omega)
  have C2' := Lib.hid (C2.out (w1.alloc (.cells #[.int .i64 1, .slice (some ⟨b, off, none⟩) 1 ck, .bool false, .bool false, .slice qc 0 cc] 27)) (w1.heap.size + 1) (by simp))
  clear C2 HU HB2
  go_wp2_with fail
  generalize (w1.alloc (.cells #[.int .i64 1, .slice (some ⟨b, off, none⟩) 1 ck, .bool false, .bool false, .slice qc 0 cc] 27)).alloc (.cells #[.string ⟨#[114, 101, 110, 97, 109, 101]⟩, .string ⟨#[97]⟩, .string ⟨#[98]⟩] 9) = W3 at HB3 HN1 HU2 HLt C2' ⊢
  refine C2'.out.mono ?_
  rintro e w2 ⟨v2, rfl, hN2, hb2⟩
  rw [ex2.1]
  obtain ⟨qk2, ck2, qc2, cc2, rfl, hO2⟩ := need_open hN2
  have hU2 := hO2.u
  obtain ⟨X, hX⟩ : ∃ X, X = ofN [[114, 101, 110, 97, 109, 101], [97], [98]] := ⟨_, rfl⟩
  have hXk := ex2.2
  rw [← hX] at hU2 hXk ⊢
  rw [hXk] at hU2 ⊢
  obtain ⟨b2, off2, rfl, -, -⟩ := hU2.cells 0 (by decide)
  have HU3 := Lib.hid (hU2.keep (Kit.below1 w2 (.cells #[.int .i64 X.cmd, .slice (some ⟨b2, off2, none⟩) 2 ck2, .bool X.ar, .bool X.aw, .slice qc2 X.ch.length cc2] 27)))
  have HU4 := Lib.hid ((HU2.out.keep hb2).keep (Kit.below1 w2 (.cells #[.int .i64 X.cmd, .slice (some ⟨b2, off2, none⟩) 2 ck2, .bool X.ar, .bool X.aw, .slice qc2 X.ch.length cc2] 27)))
  have HN3 := Lib.hid ((HN1.out.keep hb2 HLt.out).keep (Kit.below1 w2 (.cells #[.int .i64 X.cmd, .slice (some ⟨b2, off2, none⟩) 2 ck2, .bool X.ar, .bool X.aw, .slice qc2 X.ch.length cc2] 27)) (by have := hb2.size; have := HLt.out; omega))
  have HN4 := Lib.hid (NCells.new w2 (.int .i64 X.cmd) (.slice (some ⟨b2, off2, none⟩) 2 ck2) (.bool X.ar) (.bool X.aw) (.slice qc2 X.ch.length cc2) w2.heap.size rfl)
  have HB4 := Lib.hid ((HB3.out.trans (hb2.mono HB3.out.size)).alloc (HB3.out.trans (hb2.mono HB3.out.size)).size (.cells #[.int .i64 X.cmd, .slice (some ⟨b2, off2, none⟩) 2 ck2, .bool X.ar, .bool X.aw, .slice qc2 X.ch.length cc2] 27))
  obtain ⟨y0, y1, y2, y3⟩ : w2.heap.size = w2.heap.size ∧ True ∧ True ∧ True := ⟨rfl, trivial, trivial, trivial⟩
  clear hN2 hb2 hO2 hU2 hX hXk HB3 HN1 HU2 HLt C2' y0 y1 y2 y3
  simp only [List.length_cons, List.length_nil]
  go_upto_region 3 with fail
  generalize w2.alloc (.cells #[.int .i64 X.cmd, .slice (some ⟨b2, off2, none⟩) 2 ck2, .bool X.ar, .bool X.aw, .slice qc2 X.ch.length cc2] 27) = W4 at HU3 HU4 HN3 HN4 HB4 ⊢
  obtain ⟨-, a1, -, -, -⟩ := HN3.out
  obtain ⟨-, c1, -, -, -⟩ := HN4.out
  obtain ⟨b', off', e1, -, u0, u1, u2⟩ := HU4.out.cells 0 (by decide)
  injection e1 with e1
  injection e1 with e2 e3 e4
  subst e2 e3
  obtain ⟨b', off', e1, -, v0, v1, v2⟩ := HU3.out.cells 1 (by decide)
  injection e1 with e1
  injection e1 with e2 e3 e4'
  subst e2 e3
  simp only [Nat.zero_mul, Nat.add_zero, Nat.one_mul, List.getElem_cons_zero, List.getElem_cons_succ] at u0 u1 u2 v0 v1 v2
  clear e4 e4' HU3 HU4 HN3 HN4
  go_wp2_with fail
  go_ret
  exact ⟨rfl, HB4.out⟩

set_option maxHeartbeats 2000000 in
theorem few_any (q : Option Addr) (n c : Nat) (w : World) (hc : n ≤ c) (hcm : c ≤ 9223372036854775807) :
    Calls Try.prog 9 #[.slice q n c] w fun e w' => e = .returned (.slice q (min n 40) c) ∧ w' = w := by
  by_cases h40 : 40 < n
  · have d1 : (40 : Int) < (n : Int) := by omega
    have h40c : (40 : Int) ≤ (c : Int) := by omega
    rw [show min n 40 = 40 by omega]
    go_enter Try.func9, Try.ntmps9
    go_wp2_with fail
    go_ret
    exact ⟨rfl, rfl⟩
  · have d1 : ¬ (40 : Int) < (n : Int) := by omega
    rw [show min n 40 = n by omega]
    go_enter Try.func9, Try.ntmps9
    go_wp2_with fail
    go_ret
    exact ⟨rfl, rfl⟩

end Go.Proofs.Ytonoelpmmjnpeaa.UseL
