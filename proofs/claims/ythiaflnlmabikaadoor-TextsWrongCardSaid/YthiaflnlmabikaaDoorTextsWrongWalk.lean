/-
  TextsWrong: a value of another type stays as it is, and its reply says so; an error changes nothing.
-/
import Derived.Test.YthiaflnlmabikaaDoorTxtWrong
import Derived.Test.YthiaflnlmabikaaDoorRefVals
import Derived.Test.YthiaflnlmabikaaDoorRefVal3
import Derived.Test.YthiaflnlmabikaaDoorFitLen
import Derived.Deep.DeepCutAuto
import Derived.Deep.RegionLaw
import Derived.BigQuiet
namespace Go.Proofs.YthiaflnlmabikaaDoor.textsWrong
open Go.RowKit Kit StrT RowG BOrd ValT StoT ReplyT ReplyMath ValM BytesIn DoT Low MapT LstT TxtT NumL NumW NumMath ReplyM TxtM SaidT RefR TableMath TxtL RefV
set_option linter.unusedVariables false
set_option maxRecDepth 100000
-- ASKS: NumL.Gd
-- VSZ: s

theorem same_self (d : V) : sameB d d = true := decide_eq_true rfl
theorem fit_s (d : V) : (fitV d).s.length ≤ 40 := by
  unfold fitV
  repeat' split
  all_goals first | (show (List.take 40 _).length ≤ 40; rw [List.length_take]; omega) | exact Nat.zero_le _
theorem fit_kind (d : V) : (fitV d).kind ≤ 255 := by
  unfold fitV v0
  repeat' split
  all_goals simp
theorem ans_first {base : Nat} {w : World} {v : Value} {x : UInt8} {r : List UInt8} (h : Ans base w v (x :: r)) : ∃ b off n c, v = .slice (some ⟨b, off, none⟩) (n + 1) c ∧ w.cell? ⟨b, off, none⟩ = some (.int .u8 (x.toNat : Int)) ∧ b < w.heap.size := by
  obtain ⟨p, c, rfl, hB, -⟩ := h
  obtain ⟨b, off, rfl, hlt, hc⟩ := hB (by simp)
  exact ⟨b, off, r.length, c, rfl, hc 0 (by simp), hlt⟩

set_option maxHeartbeats 16000000 in
theorem walk (k : Int) (S : ByteArray) (ql : Option Addr) (nl cl : Nat) (qh : Option Addr) (nh ch : Nat) (qz : Option Addr) (nz cz : Nat) (d : V) (n : Int) (q : Option Addr) (L : List (List UInt8)) (m c : Nat) (w : World) (H : VArg w k S ql nl cl qh nh ch qz nz cz d) (hS : S.size ≤ 140737488351232) (n0 : 0 ≤ n) (n1 : n ≤ 255) (hL : L.length = m) (h : StrT.Ss w q L) (hz : ∀ s ∈ L, s.length ≤ 140737488351232) (hcap : m ≤ c) (hcm : c ≤ 9223372036854775807) (hnil : q = none → c = 0) (hg : Gd w) :
    Calls Tryd.prog 3 #[.agg #[.int .u8 k, .string S, .slice ql nl cl, .slice qh nh ch, .slice qz nz cz], .int .u8 n, .slice q m c] w fun e w' => e = .returned (.bool true) ∧ Below w.heap.size w w' := by
  obtain ⟨N, rfl⟩ := Int.eq_ofNat_of_zero_le n0
  obtain ⟨i, hi⟩ : ∃ i, i = N % 6 := ⟨_, rfl⟩
  have hi6 : i < 6 := by omega
  have hj1 : (N : Int) % 6 = (i : Int) := by omega
  have hj2 : (N : Int).tmod 6 = (i : Int) := by rw [Int.tmod_eq_emod_of_nonneg (by omega)]; omega
  have hj0 : IntKind.i64.wrap (N : Int) = (N : Int) := IntWalk.i64_in _ (by omega)
  have hj3 : (i : Int) < 6 := by omega
  have hj4 : (0 : Int) ≤ (i : Int) := by omega
  have HI6 := Lib.hid hi6
  clear hi
  have HG := Lib.hid (fun W (h : Below w.heap.size w W) => hg.keep h)
  have C0 := Lib.hid (fun W (h : Below w.heap.size w W) => shown_any W (hg.keep h))
  have HVa := Lib.hid (fun W (h : Below w.heap.size w W) => H.keep h)
  have CFi := Lib.hid (fun W (h : Below w.heap.size w W) => rfit k S ql nl cl qh nh ch qz nz cz d W (H.keep h) hS)
  have CI := Lib.hid (fun W => ids_any i hi6 W)
  have CW := Lib.hid (fun Y (hB : Below w.heap.size w Y) k8 S8 ql8 nl8 cl8 qh8 nh8 ch8 qz8 nz8 cz8 d8 (hpv : PV.In Y ⟨k8, S8, ql8, nl8, cl8, qh8, nh8, ch8, qz8, nz8, cz8, d8⟩) (h8 : S8.size ≤ 1048576) => (show Calls Tryd.prog 9 #[.agg #[.int .u8 k8, .string S8, .slice ql8 nl8 cl8, .slice qh8 nh8 ch8, .slice qz8 nz8 cz8], .int .i64 (idN i : Int), .slice q m c] Y (DoX (dN i) d8 Y) from do_words i hi6 ⟨k8, S8, ql8, nl8, cl8, qh8, nh8, ch8, qz8, nz8, cz8, d8⟩ q L m c Y hpv h8 (hg.keep hB) hL (h.keep hB) hz (Nat.le_trans hcap hcm)))
  have HBx := Lib.hid (Kit.below1 w (.cells #[.int .u8 k, .string S, .slice ql nl cl, .slice qh nh ch, .slice qz nz cz] 26))
  have HCx := Lib.hid (show VCells (w.alloc (.cells #[.int .u8 k, .string S, .slice ql nl cl, .slice qh nh ch, .slice qz nz cz] 26)) w.heap.size _ _ _ _ _ from VCells.of (heap_alloc_last w _))
  clear h hz hg hnil H hS hL hi6
  go_enter Tryd.func3, Tryd.ntmps3
  go_upto_region 1 with fail
  generalize w.alloc (.cells #[.int .u8 k, .string S, .slice ql nl cl, .slice qh nh ch, .slice qz nz cz] 26) = w0 at HBx HCx ⊢
  go_wp2_with fail
  with_reducible refine (C0.out w0 HBx.out).mono ?_
  rintro e w1 ⟨rfl, hb1⟩
  have HB := Lib.hid (HBx.out.trans (hb1.mono HBx.out.size))
  obtain ⟨-, -, a0, a1, a2, a3, a4⟩ := HCx.out.keep hb1
  clear hb1 HBx HCx C0
  go_wp2_with fail
  clear a0 a1 a2 a3 a4
  with_reducible refine (CFi.out w1 HB.out).mono ?_
  rintro e w2 ⟨v, rfl, hA, hb2⟩
  obtain ⟨p8, rfl, hI8, hd8, -, -⟩ := pv_of hA (fit_kind d) (fit_len d).1 (fit_len d).2.1 (fit_len d).2.2
  obtain ⟨k8, S8, ql8, nl8, cl8, qh8, nh8, ch8, qz8, nz8, cz8, d8⟩ := p8
  dsimp only [PV.agg]
  have HS8 := Lib.hid (show S8.size ≤ 1048576 by
    have e := VIn.es hI8
    have e2 := fit_s d
    rw [← str_len, show S8.data.toList = d8.s from e, show d8 = fitV d from hd8]
    omega)
  have HB := Lib.hid ((HB.out.trans (hb2.mono HB.out.size)).alloc (Nat.le_trans HB.out.size hb2.size) (.cells #[.int .u8 k8, .string S8, .slice ql8 nl8 cl8, .slice qh8 nh8 ch8, .slice qz8 nz8 cz8] 26))
  have HV8 := Lib.hid (show VB (w2.alloc (.cells #[.int .u8 k8, .string S8, .slice ql8 nl8 cl8, .slice qh8 nh8 ch8, .slice qz8 nz8 cz8] 26)) w2.heap.size ⟨k8, S8, ql8, nl8, cl8, qh8, nh8, ch8, qz8, nz8, cz8, d8⟩ from VB.new hI8)
  clear hI8 hd8 hA hb2 CFi
  go_upto_region 3 with fail
  generalize hgg : w2.heap.size = g8 at HV8 ⊢
  clear hgg
  generalize w2.alloc (.cells #[.int .u8 k8, .string S8, .slice ql8 nl8 cl8, .slice qh8 nh8 ch8, .slice qz8 nz8 cz8] 26) = w3 at HB HV8 ⊢
  have HVl := Lib.hid HV8.out.lt
  have HVp := Lib.hid (pv_lt HV8.out.pv)
  go_cut [9, 10] (fun s9 s10 wx => ∃ (g : Nat) (k9 : Int) (S9 : ByteArray) (ql9 : Option Addr) (nl9 cl9 : Nat) (qh9 : Option Addr) (nh9 ch9 : Nat) (qz9 : Option Addr) (nz9 cz9 : Nat) (d9 : V) (A : List (List UInt8)) (base : Nat), s9 = .pointer (some ⟨g, 0, none⟩) ∧ Hid (VB wx g ⟨k9, S9, ql9, nl9, cl9, qh9, nh9, ch9, qz9, nz9, cz9, d9⟩) ∧ Hid (d9 = (doD (dN i) d8 A).1) ∧ Hid (VB wx g8 ⟨k8, S8, ql8, nl8, cl8, qh8, nh8, ch8, qz8, nz8, cz8, d8⟩) ∧ Hid (Below w.heap.size w wx) ∧ Hid (Ans base wx s10 (doD (dN i) d8 A).2))
  case first =>
    have hr0 : VB _ g8 ⟨k8, S8, ql8, nl8, cl8, qh8, nh8, ch8, qz8, nz8, cz8, d8⟩ := HV8.out
    obtain ⟨-, -, r00, r01, r02, r03, r04⟩ := hr0.room
    dsimp only at r00 r01 r02 r03 r04
    clear hr0
    have hr1 : VB _ g8 ⟨k8, S8, ql8, nl8, cl8, qh8, nh8, ch8, qz8, nz8, cz8, d8⟩ := HV8.out.keep (Kit.below1 _ (.cells #[.int .u8 0, .string ⟨#[]⟩, .slice none 0 0, .slice none 0 0, .slice none 0 0] 26))
    obtain ⟨-, -, r10, r11, r12, r13, r14⟩ := hr1.room
    dsimp only at r10 r11 r12 r13 r14
    clear hr1
    go_region_law (first
      | (go_simp; (with_reducible refine (CI.out _).mono ?_); rintro e w4 ⟨gi, rfl, hgi, hci, hb4⟩; dsimp only
         have hb4' : Below w3.heap.size w3 w4 := by first | exact hb4 | exact c_dr hb4 | exact c_al hb4 | exact c_da hb4
         have HB4 := Lib.hid (HB.out.trans (hb4'.mono HB.out.size))
         have HL4 := Lib.hid hb4'.size
         have HL0 := Lib.hid HB.out.size
         have K_8 := Lib.hid (HV8.out.keep hb4')
         have hci2 := ((Kit.below1 w4 (.cells #[.int .u8 0, .string ⟨#[]⟩, .slice none 0 0, .slice none 0 0, .slice none 0 0] 26)).cell (p := ⟨gi, i, none⟩) hgi).trans hci
         first
           | (have HZ4 := Lib.hid (show VZ w4 w3.heap.size from vz_al hb4))
           | (have HZ4 := Lib.hid (show VZ w4 w3.heap.size from vz_da hb4))
           | skip
         have hr2 : VB _ g8 ⟨k8, S8, ql8, nl8, cl8, qh8, nh8, ch8, qz8, nz8, cz8, d8⟩ := K_8.out
         obtain ⟨-, -, r20, r21, r22, r23, r24⟩ := hr2.room
         dsimp only at r20 r21 r22 r23 r24
         clear hr2
         have hr3 : VB _ g8 ⟨k8, S8, ql8, nl8, cl8, qh8, nh8, ch8, qz8, nz8, cz8, d8⟩ := K_8.out.keep (Kit.below1 _ (.cells #[.int .u8 0, .string ⟨#[]⟩, .slice none 0 0, .slice none 0 0, .slice none 0 0] 26))
         obtain ⟨-, -, r30, r31, r32, r33, r34⟩ := hr3.room
         dsimp only at r30 r31 r32 r33 r34
         clear hr3
         clear hb4 hb4' hgi)
      | (go_simp; (with_reducible refine (CW.out _ (by first | exact HB4.out | exact HB4.out.alloc HB4.out.size _) k8 S8 ql8 nl8 cl8 qh8 nh8 ch8 qz8 nz8 cz8 d8 (by first | exact K_8.out.pv | exact (K_8.out.keep (Kit.below1 _ _)).pv) HS8.out).mono ?_); rintro e w5 ⟨A, p9, vr, rfl, hI, hd, ha, hA, hb5⟩; dsimp only [PV.agg]
         obtain ⟨k9, S9, ql9, nl9, cl9, qh9, nh9, ch9, qz9, nz9, cz9, d9⟩ := p9
         dsimp only
         have hb5' : Below w4.heap.size w4 w5 := by first | exact hb5 | exact c_al hb5
         have HB5 := Lib.hid (HB4.out.trans (hb5'.mono HB4.out.size))
         have HL5 := Lib.hid hb5'.size
         have HD9 := Lib.hid (show d9 = _ from hd)
         have K5_8 := Lib.hid (K_8.out.keep hb5')
         have hx : (w4.alloc (.cells #[.int .u8 0, .string ⟨#[]⟩, .slice none 0 0, .slice none 0 0, .slice none 0 0] 26)).heap.size = w4.heap.size + 1 := by simp
         first
           | (have hzc := HZ4.out.keep hb5'
              have HGt := Lib.hid (gov_five (w := w) hzc hI (fun j hj => by have := ha j hj; have := HL4.out; have := (Array.getElem?_eq_some_iff.1 HZ4.out).1; omega) (by have := HL4.out; have := HL0.out; omega) HB5.out hA (by have := (Array.getElem?_eq_some_iff.1 HZ4.out).1; omega))
              obtain ⟨⟨z0, z1, z2, z3, z4⟩, y0, y1, y2, y3, y4⟩ := vz_facts hzc
              clear hzc)
           | (have hzc : VZ w5 w4.heap.size := vz_al hb5
              have HGt := Lib.hid (gov_five (w := w) hzc hI (fun j hj => by have := ha j hj; omega) (by have := HL4.out; have := HL0.out; omega) HB5.out hA (by omega))
              obtain ⟨⟨z0, z1, z2, z3, z4⟩, y0, y1, y2, y3, y4⟩ := vz_facts hzc
              clear hzc)
           | (have HGt := Lib.hid (gov_new (w := w) hI HB5.out hA))
         clear hI hd ha hA hb5 hb5' hx))
    all_goals
      go_wp2_with fail
      go_meet
      exact ⟨_, _, _, _, _, _, _, _, _, _, _, _, _, A, _, rfl, Lib.hid HGt.out.v, HD9, Lib.hid (HGt.out.k _ _ K5_8.out (fun j hj => by have h1 := HVp.out j hj; have := HL4.out; have := HL5.out; omega) (by have := HVl.out; have := HL4.out; have := HL5.out; omega)), Lib.hid HGt.out.b, Lib.hid HGt.out.a⟩
  case rest =>
  obtain ⟨g9, k9, S9, ql9, nl9, cl9, qh9, nh9, ch9, qz9, nz9, cz9, d9, A, base, rfl, HV9, HD9, HV8n, HBn, HAn⟩ := hcut
  rename World => w5
  clear HV8 HB HVl HVp CI CW
  have HV8 := HV8n
  have HB := HBn
  clear HV8n HBn
  have CS := Lib.hid (rsame k9 S9 ql9 nl9 cl9 qh9 nh9 ch9 qz9 nz9 cz9 d9 k8 S8 ql8 nl8 cl8 qh8 nh8 ch8 qz8 nz8 cz8 d8 w5 HV9.out.pv HV8.out.pv)
  go_upto_region 4 with fail
  obtain ⟨-, -, u0, u1, u2, u3, u4⟩ := HV9.out.room
  obtain ⟨-, -, v0_, v1_, v2_, v3_, v4_⟩ := HV8.out.room
  dsimp only at u0 u1 u2 u3 u4 v0_ v1_ v2_ v3_ v4_
  go_wp2_with fail
  with_reducible refine CS.out.mono ?_
  rintro e w7 ⟨rfl, hb7⟩
  have HB := Lib.hid (HB.out.trans (hb7.mono HB.out.size))
  have HV8 := Lib.hid (HV8.out.keep hb7)
  have HA := Lib.hid (HAn.out.keep hb7)
  clear hb7 u0 u1 u2 u3 u4 v0_ v1_ v2_ v3_ v4_ HAn CS HV9
  obtain ⟨-, -, v0_, v1_, v2_, v3_, v4_⟩ := HV8.out.room
  dsimp only at v0_ v1_ v2_ v3_ v4_
  have hK : k8 = (d8.kind : Int) := VIn.ek HV8.out.pv
  rcases kinds d8 with hk | hk
  · obtain ⟨x, r, hr, hx⟩ := reply_ok (dN i) d8 A hk
    have hA := HA.out
    rw [hr] at hA
    obtain ⟨b, off, N9, c9, rfl, hc9, -⟩ := ans_first hA
    have l1 : (((N9 + 1 : Nat) : Int) == 0) = false := by rw [beq_eq_false_iff_ne]; omega
    have l2 : (0 : Int) < ((N9 + 1 : Nat) : Int) := by omega
    have l3 : (0 : Nat) < N9 + 1 := by omega
    obtain ⟨N8, hN8⟩ : ∃ N8, N8 = N9 + 1 := ⟨_, rfl⟩
    rw [← hN8] at l1 l2 l3 ⊢
    have tt : (k8 != 0) = false ∨ (k8 != 0) = true ∧ (k8 != 1) = false := by
      rcases hk with h | h
      · left; rw [hK, h]; rfl
      · right; rw [hK, h]; exact ⟨rfl, rfl⟩
    clear hN8 hA hr HA
    rcases hx with hx | ⟨rfl, hx⟩
    · have tx : ((x.toNat : Int) != 45) = true := by
        rw [bne_iff_ne]
        intro h
        apply hx
        have h2 : x.toNat = 45 := by omega
        exact UInt8.toNat_inj.1 (by rw [h2]; rfl)
      generalize sameB d9 d8 = bb
      clear hx hK HD9
      rcases tt with t0 | ⟨t0, t1⟩
      all_goals
        go_wp2_with fail
        go_ret
        exact ⟨rfl, HB.out⟩
    · have hs : sameB d9 d8 = true := by rw [HD9.out, hx]; exact same_self d8
      rw [hs]
      have tx : ((((45 : UInt8)).toNat : Int) != 45) = false := by decide
      have hc9 : w7.cell? ⟨b, off, none⟩ = some (.int .u8 45) := hc9
      clear hx hK HD9 hs
      rcases tt with t0 | ⟨t0, t1⟩
      all_goals
        go_wp2_with fail
        go_ret
        exact ⟨rfl, HB.out⟩
  · have hs : sameB d9 d8 = true := by rw [HD9.out, doD_wrong hk]; exact same_self d8
    rw [hs]
    have hA := HA.out
    rw [doD_wrong hk] at hA
    dsimp only at hA
    obtain ⟨q9, c9, rfl, hv⟩ := ans_text hA 68 (by decide +kernel) ⟨#[45, 87, 82, 79, 78, 71, 84, 89, 80, 69, 32, 79, 112, 101, 114, 97, 116, 105, 111, 110, 32, 97, 103, 97, 105, 110, 115, 116, 32, 97, 32, 107, 101, 121, 32, 104, 111, 108, 100, 105, 110, 103, 32, 116, 104, 101, 32, 119, 114, 111, 110, 103, 32, 107, 105, 110, 100, 32, 111, 102, 32, 118, 97, 108, 117, 101, 13, 10]⟩ (by decide +kernel)
    have hv := hv w7 (Below.refl _ _)
    have t0 : (k8 != 0) = true := bne_iff_ne.2 (by rw [hK]; omega)
    have t1 : (k8 != 1) = true := bne_iff_ne.2 (by rw [hK]; omega)
    clear hK HD9 hs hA HA hk
    go_wp2_with fail
    go_ret
    exact ⟨rfl, HB.out⟩

end Go.Proofs.YthiaflnlmabikaaDoor.textsWrong
