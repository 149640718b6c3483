/-
  The document's examples of layer 10, over the contracts of the landed code; those contracts for stores side by side.
-/
import Derived.Test.YtbcjgkedlapmhaaStoCode
namespace Go.Proofs.Ytbcjgkedlapmhaa.StoL
open Go.RowKit Kit StrT RowG BOrd ValT StoT StoM MapF
set_option linter.unusedVariables false
set_option maxRecDepth 100000

theorem key_a : KeyIs ⟨#[97]⟩ [97] := rfl
theorem key_b : KeyIs ⟨#[98]⟩ [98] := rfl
theorem key_c : KeyIs ⟨#[99]⟩ [99] := rfl
section
variable {B : StK} {w0 w : World} {X : Nat → Prop} {D E : Sd V} {s : Nat}
theorem tput (SB : Stb B) (H : Tw (SSt s) B w0 X w D E) (hn : D.n ≤ 100000) (K : ByteArray) (k : List UInt8) (hK : KeyIs K k) (p : PV) (hp : p.In w) (hx : ∀ k, p.at_ k → X k) (hr : right p.d) : Calls Try.prog 19 #[.pointer (some ⟨s, 0, none⟩), .string K, p.agg] w fun e w' => e = .returned (.tuple #[]) ∧ Tw (SSt s) B w0 X w' (putAny k p.d D) E ∧ Keep X w w' :=
  H.put1 (sstb s) SB p.at_ hx (fun F R h hR => sput K k p p.at_ hK h hn hp (fun _ h => h) hR hr)
theorem tget (SB : Stb B) (H : Tw (SSt s) B w0 X w D E) (hn : D.n ≤ 100000) (K : ByteArray) (k : List UInt8) (hK : KeyIs K k) : Calls Try.prog 13 #[.pointer (some ⟨s, 0, none⟩), .string K] w (GotV (SSt s) B w0 X w (getS k D) E ((getV k D.L).getD v0)) :=
  H.get1 (sstb s) SB (fun F R h => sget K k hK h hn)
theorem tdue (SB : Stb B) (H : Tw (SSt s) B w0 X w D E) (hn : D.n ≤ 100000) (K : ByteArray) (k : List UInt8) (hK : KeyIs K k) : Calls Try.prog 23 #[.pointer (some ⟨s, 0, none⟩), .string K] w fun e w' => e = .returned (.tuple #[.int .i64 (dueV k D.L).1, .bool (dueV k D.L).2]) ∧ Tw (SSt s) B w0 X w' (getS k D) E ∧ Keep X w w' :=
  H.do1 (sstb s) SB (fun F R h => sdue K k hK h hn)
theorem tsetdue (SB : Stb B) (H : Tw (SSt s) B w0 X w D E) (hn : D.n ≤ 100000) (K : ByteArray) (k : List UInt8) (a : Int) (on : Bool) (hK : KeyIs K k) : Calls Try.prog 15 #[.pointer (some ⟨s, 0, none⟩), .string K, .int .i64 a, .bool on] w fun e w' => e = .returned (.bool (setDueB k D)) ∧ Tw (SSt s) B w0 X w' (setDueS k a on D) E ∧ Keep X w w' :=
  H.do1 (sstb s) SB (fun F R h => ssetdue K k a on hK h hn)
theorem ttick (SB : Stb B) (H : Tw (SSt s) B w0 X w D E) (hn : D.n ≤ 100000) (m : Int) (hm0 : -9223372036854775808 ≤ m) (hm1 : m ≤ 9223372036854775807) : Calls Try.prog 17 #[.pointer (some ⟨s, 0, none⟩), .int .i64 m] w fun e w' => e = .returned (.tuple #[]) ∧ Tw (SSt s) B w0 X w' (tickS m D) E ∧ Keep X w w' :=
  H.do1 (sstb s) SB (fun F R h => stick m hm0 hm1 h hn)
theorem tnow (SB : Stb B) (H : Tw (SSt s) B w0 X w D E) : Calls Try.prog 30 #[.pointer (some ⟨s, 0, none⟩)] w fun e w' => e = .returned (.int .i64 D.time) ∧ Tw (SSt s) B w0 X w' D E ∧ Keep X w w' :=
  H.do1 (sstb s) SB (fun F R h => snow h)
theorem tkeys (SB : Stb B) (H : Tw (SSt s) B w0 X w D E) (hn : D.n ≤ 100000) : Calls Try.prog 27 #[.pointer (some ⟨s, 0, none⟩)] w (GotL (SSt s) B w0 X w D E (keysS D.L)) :=
  H.list1 (sstb s) SB (fun F R h => skeys h hn)
theorem tpurge (SB : Stb B) (H : Tw (SSt s) B w0 X w D E) (hn : D.n ≤ 100000) : Calls Try.prog 21 #[.pointer (some ⟨s, 0, none⟩)] w fun e w' => e = .returned (.int .i64 (purgeN D : Int)) ∧ Tw (SSt s) B w0 X w' (purgeS D) E ∧ Keep X w w' :=
  H.do1 (sstb s) SB (fun F R h => spurge h hn)
theorem tversion (SB : Stb B) (H : Tw (SSt s) B w0 X w D E) (hn : D.n ≤ 100000) (K : ByteArray) (k : List UInt8) (hK : KeyIs K k) : Calls Try.prog 31 #[.pointer (some ⟨s, 0, none⟩), .string K] w fun e w' => e = .returned (.int .i64 (D.C k : Int)) ∧ Tw (SSt s) B w0 X w' D E ∧ Keep X w w' :=
  H.do1 (sstb s) SB (fun F R h => sversion K k hK h hn)
theorem theld (SB : Stb B) (H : Tw (SSt s) B w0 X w D E) (hn : D.n ≤ 100000) : Calls Try.prog 29 #[.pointer (some ⟨s, 0, none⟩)] w fun e w' => e = .returned (.int .i64 (D.L.length : Int)) ∧ Tw (SSt s) B w0 X w' D E ∧ Keep X w w' :=
  H.do1 (sstb s) SB (fun F R h => sheld h hn)
end
/-- A new store, alone. -/
theorem tnew (w0 w : World) (hb : Below w0.heap.size w0 w) : Calls Try.prog 10 #[] w fun e w' => ∃ s, e = .returned (.pointer (some ⟨s, 0, none⟩)) ∧ Tw (SSt s) NoSt w0 (fun k => k < w.heap.size) w' s0 s0 ∧ Below w.heap.size w w' := by
  refine (snew w).mono ?_
  rintro e w' ⟨s, F, rfl, h, hb', hF⟩
  exact ⟨s, rfl, ⟨F, _, _, _, h, ⟨rfl, rfl⟩, fun k hk => ⟨id, id, Nat.not_lt.2 (hF k hk), Nat.le_trans hb.size (hF k hk)⟩, fun k hk => hk.elim, fun k hk => Nat.lt_of_lt_of_le hk hb'.size, hb.trans (hb'.mono hb.size)⟩, hb'⟩
/-- A text as a value. -/
def tv (S : ByteArray) : PV := ⟨1, S, none, 0, 0, none, 0, 0, none, 0, 0, ⟨1, S.data.toList, [], [], []⟩⟩
theorem tv_in (S : ByteArray) (w : World) : (tv S).In w := show VIn w 1 S none 0 0 none 0 0 none 0 0 ⟨1, S.data.toList, [], [], []⟩ from ⟨rfl, by show (1 : Nat) ≤ 255; decide, rfl, Rs.nil _ _ _, Rs.nil _ _ _, Rs.nil _ _ _, rfl, rfl, rfl, by decide, by decide, by decide, by decide, by decide, by decide, by decide, by decide, by decide, fun _ => rfl, fun _ => rfl, fun _ => rfl⟩
theorem tv_at (S : ByteArray) (k : Nat) : ¬ (tv S).at_ k := by
  unfold PV.at_ tv
  simp
theorem tv_right (S : ByteArray) : right (tv S).d := Or.inr (Or.inl ⟨rfl, rfl, rfl, rfl⟩)
theorem keep_cells {X : Nat → Prop} {w w' : World} {g : Nat} {x0 x1 x2 x3 x4 : Value} (h : VCells w g x0 x1 x2 x3 x4) (hk : Keep X w w') (hx : X g) : VCells w' g x0 x1 x2 x3 x4 := VCells.of (by rw [hk.2 g hx]; exact h.hp)
/-- A part of a value that is no variable. -/
theorem fld_kind (k : Int) (S : ByteArray) (a b c : Value) (W : World) : (Instr.field 35 (.agg #[.int .u8 k, .string S, a, b, c]) 0).run Try.prog W = .ok (.int .u8 k) W := by kernel_rfl
theorem fld_text (k : Int) (S : ByteArray) (a b c : Value) (W : World) : (Instr.field 35 (.agg #[.int .u8 k, .string S, a, b, c]) 1).run Try.prog W = .ok (.string S) W := by kernel_rfl
/-! ### The examples -/
def dx : V := ⟨1, [120], [], [], []⟩
def E1 : Sd V := putAny [97] dx s0
def E2 : Sd V := setDueS [97] 5 true E1
def E3 : Sd V := tickS 4 E2
def E4 : Sd V := getS [97] E3
def E5 : Sd V := tickS 1 E4
def E6 : Sd V := purgeS E5
theorem e_facts : setDueB [97] E1 = true ∧ (getV [97] E3.L).getD v0 = dx ∧ E5.L.length = 1 ∧ purgeN E5 = 1 ∧ E6.L.length = 0 ∧ (getV [97] E6.L).getD v0 = v0 ∧ E1.n = 1 ∧ E2.n = 2 ∧ E3.n = 3 ∧ E4.n = 4 ∧ E5.n = 5 ∧ E6.n = 6 := by
  refine ⟨rfl, rfl, rfl, rfl, rfl, rfl, rfl, rfl, rfl, rfl, rfl, rfl⟩
set_option maxHeartbeats 4000000 in
theorem shown_any (w : World) : Calls Try.prog 9 #[] w fun e w' => e = .returned (.bool true) ∧ Below w.heap.size w w' := by
  have CN := Lib.hid (tnew w w (Below.refl _ _))
  obtain ⟨f1, f2, f3, f4, f5, f6, n1, n2, n3, n4, n5, n6⟩ := e_facts
  have HF2 := Lib.hid f2
  have HF6 := Lib.hid f6
  have HN := Lib.hid (⟨n1, n2, n3, n4, n5, n6⟩ : E1.n = 1 ∧ E2.n = 2 ∧ E3.n = 3 ∧ E4.n = 4 ∧ E5.n = 5 ∧ E6.n = 6)
  have HF := Lib.hid (⟨f1, f3, f4, f5⟩ : setDueB [97] E1 = true ∧ E5.L.length = 1 ∧ purgeN E5 = 1 ∧ E6.L.length = 0)
  clear f1 f2 f3 f4 f5 f6 n1 n2 n3 n4 n5 n6
  go_enter Try.func9, Try.ntmps9
  go_wp2_with fail
  refine CN.out.mono ?_
  rintro e w1 ⟨s, rfl, h1, hb1⟩
  have H1 := Lib.hid h1
  have CP := Lib.hid (tput noSt_stb H1.out (by decide) ⟨#[97]⟩ [97] key_a (tv ⟨#[120]⟩) (tv_in _ _) (fun k hk => absurd hk (tv_at _ k)) (tv_right _))
  clear h1 hb1
  go_wp2_with fail
  refine CP.out.mono ?_
  rintro e w2 ⟨rfl, h2, -⟩
  have H2 := Lib.hid (show Tw (SSt s) NoSt w _ w2 E1 s0 from h2)
  have CD := Lib.hid (tsetdue noSt_stb H2.out (by rw [HN.out.1]; decide) ⟨#[97]⟩ [97] 5 true key_a)
  rw [HF.out.1] at CD
  clear h2 CP
  go_wp2_with fail
  refine CD.out.mono ?_
  rintro e w3 ⟨rfl, h3, -⟩
  have H3 := Lib.hid (show Tw (SSt s) NoSt w _ w3 E2 s0 from h3)
  have CT := Lib.hid (ttick noSt_stb H3.out (by rw [HN.out.2.1]; decide) 4 (by decide) (by decide))
  clear h3 CD
  go_wp2_with fail
  refine CT.out.mono ?_
  rintro e w4 ⟨rfl, h4, -⟩
  have H4 := Lib.hid (show Tw (SSt s) NoSt w _ w4 E3 s0 from h4)
  have CG := Lib.hid (tget noSt_stb H4.out (by rw [HN.out.2.2.1]; decide) ⟨#[97]⟩ [97] key_a)
  clear h4 CT
  go_wp2_with fail
  refine CG.out.mono ?_
  rintro e w5 ⟨p, rfl, hp, hd, h5, -⟩
  have hS : p.S = ⟨#[120]⟩ := by
    have h := hp.es
    rw [hd, HF2.out] at h
    exact ByteArray.ext (Array.toList_inj.1 h)
  have H5 := Lib.hid ((show Tw (SSt s) NoSt w _ w5 E4 s0 from h5).on (sstb s) noSt_stb (show Below w5.heap.size w5 (w5.alloc (.cells #[.int .u8 p.k, .string p.S, .slice p.ql p.nl p.cl, .slice p.qh p.nh p.ch, .slice p.qz p.nz p.cz] 35)) from (Below.refl _ _).alloc (Nat.le_refl _) _)).1
  have HV5 := Lib.hid (VCells.new w5 (.int .u8 p.k) (.string p.S) (.slice p.ql p.nl p.cl) (.slice p.qh p.nh p.ch) (.slice p.qz p.nz p.cz) w5.heap.size rfl)
  have HX5 := Lib.hid (show w5.heap.size ≤ w5.heap.size ∧ w5.heap.size < (w5.alloc (.cells #[.int .u8 p.k, .string p.S, .slice p.ql p.nl p.cl, .slice p.qh p.nh p.ch, .slice p.qz p.nz p.cz] 35)).heap.size from ⟨Nat.le_refl _, HV5.out.lt⟩)
  rw [hS] at H5 HV5 HX5
  unfold PV.agg
  rw [hS]
  clear hp hd h5 CG hS
  go_wp2_with fail
  generalize w5.alloc (.cells #[.int .u8 p.k, .string ⟨#[120]⟩, .slice p.ql p.nl p.cl, .slice p.qh p.nh p.ch, .slice p.qz p.nz p.cz] 35) = w6 at H5 HV5 HX5 ⊢
  have CT := Lib.hid (ttick noSt_stb H5.out (by rw [HN.out.2.2.2.1]; decide) 1 (by decide) (by decide))
  refine CT.out.mono ?_
  rintro e w7 ⟨rfl, h7, hk7⟩
  have H7 := Lib.hid (show Tw (SSt s) NoSt w _ w7 E5 s0 from h7)
  have HV7 := Lib.hid (keep_cells HV5.out hk7 (Or.inr HX5.out))
  have CH := Lib.hid (theld noSt_stb H7.out (by rw [HN.out.2.2.2.2.1]; decide))
  rw [HF.out.2.1] at CH
  obtain ⟨-, -, c0, c1, c2, c3, c4⟩ := HV7.out
  clear h7 hk7 CT
  go_wp2_with (first
    | (go_at_call 29; with_reducible refine CH.out.mono ?_; rintro e w8 ⟨rfl, h8, -⟩; have H8 := Lib.hid h8; have CU := Lib.hid (tpurge noSt_stb H8.out (by rw [HN.out.2.2.2.2.1]; decide)); rw [HF.out.2.2.1] at CU; clear h8 CH)
    | (go_at_call 21; with_reducible refine CU.out.mono ?_; rintro e w9 ⟨rfl, h9, -⟩; have H9 := Lib.hid (show Tw (SSt s) NoSt w _ w9 E6 s0 from h9); have CH := Lib.hid (theld noSt_stb H9.out (by rw [HN.out.2.2.2.2.2]; decide)); rw [HF.out.2.2.2] at CH; clear h9 CU)
    | (go_at_call 29; with_reducible refine CH.out.mono ?_; rintro e wa ⟨rfl, ha, -⟩; have Ha := Lib.hid ha; have CG := Lib.hid (tget noSt_stb Ha.out (by rw [HN.out.2.2.2.2.2]; decide) ⟨#[97]⟩ [97] key_a); clear ha CH))
  with_reducible refine CG.out.mono ?_
  rintro e wb ⟨q, rfl, hq, hqd, hb, -⟩
  have hk : q.k = 0 := by
    rw [hq.ek, hqd, HF6.out]
    rfl
  unfold PV.agg
  rw [hk]
  have HB := Lib.hid hb.below
  have hf := fun W => fld_kind 0 q.S (.slice q.ql q.nl q.cl) (.slice q.qh q.nh q.ch) (.slice q.qz q.nz q.cz) W
  clear hq hqd hb CG hk
  go_wp2_with fail
  go_ret
  exact ⟨rfl, HB.out⟩

end Go.Proofs.Ytbcjgkedlapmhaa.StoL
