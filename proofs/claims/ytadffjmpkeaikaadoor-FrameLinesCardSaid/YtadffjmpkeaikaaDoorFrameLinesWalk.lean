/-
  FrameLines: words on a line are what stands between blanks, whichever way the line ends; empty lines are left out; they take no byte more.
-/
import Derived.Test.YtadffjmpkeaikaaDoorFramePlain
import Derived.Test.YtadffjmpkeaikaaDoorFrameBack0
import Derived.Test.YtadffjmpkeaikaaDoorFrameRead
import Derived.Deep.RegionLaw
namespace Go.Proofs.YtadffjmpkeaikaaDoor.frameLines
open Go.RowKit Kit BytesIn ReplyMath ReplyT NumMath NumL FrameMath FrameT FrameM FrameL
set_option linter.unusedVariables false
set_option maxRecDepth 100000
-- ASKS: NumL.Gd

theorem str_at0 (T : ByteArray) (c : UInt8) (h : T.data.toList[0]? = some c) (W : World) : (Instr.index 9 (.string T) (.int .i64 0)).run Tryd.prog W = .ok (.int .u8 (c.toNat : Int)) W := by
  have hs : 0 < T.size := by
    have h1 := (List.getElem?_eq_some_iff.1 h).1
    simpa using h1
  have e : T[0] = c := by
    have h2 : T.data.toList[0]? = some T[0] := by rw [List.getElem?_eq_getElem (by simpa using hs)]; rfl
    rw [h2] at h
    injection h
  rw [run_index_string _ _ _ _ _ Tryd.underlying9, dif_pos ⟨by omega, by omega⟩]
  simp [e]
theorem add_str (a b : ByteArray) (h : a.size + b.size ≤ 9223372036854775807) (W : World) : (Op.stringOp .add a b).run Tryd.prog W = .ok (.string (a ++ b)) W := run_string_add_sum W a b h
theorem emp_str (T : ByteArray) (l : List UInt8) (h : T.data.toList = l) : T.toList.isEmpty = l.isEmpty := by rw [ByteArray.toList_eq, h]
theorem ownS_low {b b' : Nat} {w : World} {v : Value} {L : List (List UInt8)} (h : OwnS b w v L) (hb : b' ≤ b) : OwnS b' w v L := by
  refine ⟨h.1, ?_⟩
  rcases h.2 with h1 | ⟨g, cap, cur, e, hg, h2⟩
  · exact Or.inl h1
  · exact Or.inr ⟨g, cap, cur, e, Nat.le_trans hb hg, h2⟩
theorem below_conv (w : World) (s : ByteArray) : Below w.heap.size w (Lib.bytesWorld w 5 s) := bytesWorld_below w _ s
theorem byte_beq {c : UInt8} {d : Nat} (h : c.toNat = d) : ((c.toNat : Int) == (d : Int)) = true := by rw [beq_iff_eq]; omega
theorem byte_neq {c : UInt8} {d : Nat} (h : c.toNat ≠ d) : ((c.toNat : Int) == (d : Int)) = false := by rw [beq_eq_false_iff_ne]; omega
theorem spread_add (m : Nat) (W : List (List UInt8)) (t : List UInt8) (A U : ByteArray) (hA : A.data.toList = spread m W) (hU : U.data.toList = t ++ List.replicate (m + 1) 32) : (A ++ U).data.toList = spread m (W ++ [t]) := by
  rw [spread_snoc, ← hA, ← hU]
  simp
theorem blank_add (U : ByteArray) (t : List UInt8) (i : Nat) (hU : U.data.toList = t ++ List.replicate i 32) : (U ++ ⟨#[32]⟩).data.toList = t ++ List.replicate (i + 1) 32 := by
  rw [List.replicate_succ', ← List.append_assoc, ← hU]
  simp
theorem getD_at (l : List (List UInt8)) (k : Nat) (h : k < l.length) : l.getD k [] = l[k] := by simp [List.getD, h]

set_option maxHeartbeats 4000000 in
theorem walk0 (q : Option Addr) (x : List (List UInt8)) (n c : Nat) (b : Nat) (both : Bool) (w : World) (hn : x.length = n) (hx : Ss w q x) (hn9 : n ≤ 9223372036854775807) (hzx : ∀ s ∈ x, s.length ≤ 140737488351232) (hb255 : b ≤ 255) (hg : Gd w) :
    Calls Tryd.prog 6 #[.slice q n c, .int .u8 (b : Int), .bool both] w fun e w' => e = .returned (.bool true) ∧ Below w.heap.size w w' := by
  have HG := Lib.hid hg
  have C0 := Lib.hid (shown_any w hg)
  have HN := Lib.hid hn
  have HX := Lib.hid hx
  have HZ := Lib.hid hzx
  obtain ⟨m, hm⟩ : ∃ m : Nat, (b : Int) % 3 = (m : Int) := ⟨b % 3, by omega⟩
  have hm2 : m ≤ 2 := by omega
  have HM := Lib.hid hm
  clear hg hn hx hzx hm
  go_enter Tryd.func6, Tryd.ntmps6
  go_wp2_with fail
  with_reducible refine C0.out.mono ?_
  rintro e w1 ⟨rfl, hb1⟩
  have HB1 := Lib.hid (hb1.alloc hb1.size (.cells #[] 9))
  have HO1 := Lib.hid (show OwnS w.heap.size (w1.alloc (.cells #[] 9)) (.slice (some ⟨w1.heap.size, 0, none⟩) 0 0) [] from ownS_low (OwnS.new w1) hb1.size)
  clear hb1 C0
  go_wp2_with fail
  go_loopw [8, 9, 10] (fun v l i wr => ∃ (k nW : Nat) (LN : ByteArray) (W : List (List UInt8)) (r : Option Addr) (d : Nat), v = .slice r nW d ∧ l = .string LN ∧ i = .int .i64 k ∧ k ≤ n ∧ k ≤ 32 ∧ LN.size ≤ 18 * k ∧ Hid (nW = W.length) ∧ Hid (W = pick x k) ∧ Hid (LN.data.toList = spread m W) ∧ Hid (OwnS w.heap.size wr v W) ∧ Hid (Below w.heap.size w wr)) (fun _ _ i _ => n - (intOf i).toNat)
  case atStart => exact ⟨0, 0, ⟨#[]⟩, [], _, _, rfl, rfl, rfl, Nat.zero_le _, by omega, Nat.zero_le _, Lib.hid rfl, Lib.hid rfl, Lib.hid rfl, HO1, HB1⟩
  case round =>
    obtain ⟨k, nW, LN, W, r, d, rfl, rfl, rfl, hk, hk32, hLN, HNW, HW, HLN, HO, HB⟩ := hrel
    clear HO1 HB1
    by_cases hgo : k < n ∧ k < 32
    · obtain ⟨hlt, h32⟩ := hgo
      have d1 : decide ((k : Int) < (n : Int)) = true := decide_eq_true (by omega)
      have d2 : decide ((k : Int) < 32) = true := decide_eq_true (by omega)
      have hkl : k < x.length := by rw [HN.out]; exact hlt
      obtain ⟨gb, off, rfl, hbl, hc⟩ := (HX.out.keep HB.out) (by omega)
      have hu := hc k hkl
      obtain ⟨S, hS⟩ : ∃ S : ByteArray, S = ⟨x[k].toArray⟩ := ⟨_, rfl⟩
      have hSz : S.size ≤ 140737488351232 := by rw [hS, size_bytes]; exact HZ.out x[k] (List.getElem_mem hkl)
      have hSd : S.data.toList = x.getD k [] := by rw [hS, getD_at x k hkl]
      rw [← hS] at hu
      have CP := Lib.hid (plain_any S S.size wr rfl hSz)
      obtain ⟨t, ht⟩ : ∃ t, t = plainL S.data.toList := ⟨_, rfl⟩
      rw [← ht] at CP
      have HT := Lib.hid (show t = plainL (x.getD k []) by rw [ht, hSd])
      have htl : t.length ≤ 15 := by rw [ht]; exact plainL_len _
      obtain ⟨T, hT⟩ : ∃ T : ByteArray, T = ⟨t.toArray⟩ := ⟨_, rfl⟩
      rw [← hT] at CP
      have hTs : T.size ≤ 15 := by rw [hT, size_bytes]; exact htl
      have HTd := Lib.hid (show T.data.toList = t by rw [hT])
      have HE := Lib.hid (emp_str T t HTd.out)
      clear hS hSz hSd hc ht htl hT
      go_wp2_with fail
      refine CP.out.mono ?_
      rintro e w2 ⟨rfl, hb2⟩
      have HB2 := Lib.hid (HB.out.trans (hb2.mono HB.out.size))
      have HO2 := Lib.hid (HO.out.keep hb2)
      have hnil : W = [] ↔ nW = 0 := by rw [HNW.out, List.length_eq_zero_iff]
      have hW0 : k = 0 → nW = 0 := fun h => by
        subst h
        exact hnil.1 HW.out
      by_cases hout : t = [] ∨ (W = [] ∧ t.head? = some 42)
      · have HP := Lib.hid (show W = pick x (k + 1) by rw [pick_out x k t HT.out (by rw [← HW.out]; exact hout)]; exact HW.out)
        have HR := Lib.hid (show ∃ (k' nW' : Nat) (LN' : ByteArray) (W' : List (List UInt8)) (r' : Option Addr) (d' : Nat), Value.slice r nW d = .slice r' nW' d' ∧ Value.string LN = .string LN' ∧ Value.int .i64 ((k : Int) + 1) = .int .i64 k' ∧ k' ≤ n ∧ k' ≤ 32 ∧ LN'.size ≤ 18 * k' ∧ Hid (nW' = W'.length) ∧ Hid (W' = pick x k') ∧ Hid (LN'.data.toList = spread m W') ∧ Hid (OwnS w.heap.size w2 (.slice r nW d) W') ∧ Hid (Below w.heap.size w w2) from
          ⟨k + 1, nW, LN, W, r, d, rfl, rfl, by go_num, by omega, by omega, by omega, HNW, HP, HLN, HO2, HB2⟩)
        clear HP CP hb2 HO HB
        rcases hout with h | ⟨h, h'⟩
        · have e1 : T.toList.isEmpty = true := by rw [HE.out, h]; rfl
          clear h hnil hW0
          go_wp2_with fail
          go_roundw
          case rel => exact HR.out
          case measure => simp [intOf]; omega
        · obtain ⟨a, s, rfl⟩ : ∃ a s, t = a :: s := by
            cases t with
            | nil => simp at h'
            | cons a s => exact ⟨a, s, rfl⟩
          obtain rfl : a = 42 := by simpa using h'
          have e1 : T.toList.isEmpty = false := by rw [HE.out]; rfl
          have i0 := str_at0 T 42 (by rw [HTd.out]; rfl)
          obtain rfl : nW = 0 := hnil.1 h
          clear h h' hnil hW0
          by_cases hk0 : k = 0
          · have tk : ((k : Int) == 0) = true := by rw [hk0]; rfl
            clear hk0
            go_wp2_with fail
            go_roundw
            case rel => exact HR.out
            case measure => simp [intOf]; omega
          · have tk : ((k : Int) == 0) = false := by rw [beq_eq_false_iff_ne]; omega
            clear hk0
            go_wp2_with fail
            go_roundw
            case rel => exact HR.out
            case measure => simp [intOf]; omega
      · obtain ⟨a, s, rfl⟩ : ∃ a s, t = a :: s := by
          cases t with
          | nil => exact absurd (Or.inl rfl) hout
          | cons a s => exact ⟨a, s, rfl⟩
        have HP := Lib.hid (show W ++ [a :: s] = pick x (k + 1) by rw [pick_in x k (a :: s) HT.out (by simp) (by rw [← HW.out]; exact fun h => hout (Or.inr h)), ← HW.out])
        have e1 : T.toList.isEmpty = false := by rw [HE.out]; rfl
        have i0 := str_at0 T a (by rw [HTd.out]; rfl)
        have ways : (((k : Int) == 0) = true ∧ ((nW : Int) == 0) = true ∧ ((a.toNat : Int) == 42) = false) ∨ (((k : Int) == 0) = false ∧ ((nW : Int) == 0) = true ∧ ((a.toNat : Int) == 42) = false) ∨ (((k : Int) == 0) = false ∧ ((nW : Int) == 0) = false) := by
          simp only [beq_iff_eq, beq_eq_false_iff_ne]
          have h42 : nW = 0 → (a.toNat : Int) ≠ 42 := fun h e => hout (Or.inr ⟨hnil.2 h, by
            rw [show a = 42 from UInt8.toNat_inj.1 (show a.toNat = 42 by omega)]
            rfl⟩)
          omega
        have HOA := Lib.hid (HO2.out.keep (below1 w2 (.cells #[.string T] 9)))
        have HBA := Lib.hid (HB2.out.alloc HB2.out.size (.cells #[.string T] 9))
        have HC := Lib.hid (show (w2.alloc (.cells #[.string T] 9)).cell? ⟨w2.heap.size, 0, none⟩ = some (.string T) by simp [World.cell?_alloc_mark])
        have HWl := Lib.hid (show W.length ≤ 1048576 by rw [HW.out]; have := pick_len x k; omega)
        have HNW1 := Lib.hid (show nW + 1 = (W ++ [a :: s]).length by rw [HNW.out]; simp)
        clear hout hnil hW0 hb2 HO HB CP HO2 HB2
        rcases ways with ⟨tk, tn, ta⟩ | ⟨tk, tn, ta⟩ | ⟨tk, tn⟩
        all_goals
          go_wp2_with (at_builtin; refine wpList_append_s (w0 := w) rfl (.tmp 59) (.tmp 61) rfl _ W rfl HOA.out HBA.out w2.heap.size T (a :: s) 1 rfl HTd.out HC.out HWl.out ?_; intro v' w4 hown1 hb4)
          obtain ⟨r4, d4, hv4, -⟩ := hown1.ss
          rw [← HNW1.out] at hv4
          subst hv4
          have HO4 := Lib.hid hown1
          have HB4 := Lib.hid hb4
          clear hown1 hb4
          go_loopw [11, 12] (fun u j wx => ∃ (i : Nat) (U : ByteArray), u = .string U ∧ j = .int .i64 i ∧ i ≤ m + 1 ∧ U.size ≤ 15 + i ∧ Hid (U.data.toList = (a :: s) ++ List.replicate i 32) ∧ wx = w4) (fun _ j _ => m + 1 - (intOf j).toNat)
          case atStart => exact ⟨0, T, rfl, rfl, Nat.zero_le _, by omega, Lib.hid (by rw [HTd.out]; simp), rfl⟩
          case round =>
            obtain ⟨i, U, rfl, rfl, hi, hU, HU, rfl⟩ := hrel
            by_cases him : i ≤ m
            · have d3 : decide ((i : Int) ≤ (b : Int) % 3) = true := decide_eq_true (by rw [HM.out]; omega)
              obtain ⟨V, hV⟩ : ∃ V, V = U ++ ⟨#[32]⟩ := ⟨_, rfl⟩
              have ad := add_str U ⟨#[32]⟩ (by rw [show (⟨#[32]⟩ : ByteArray).size = 1 from rfl]; omega)
              rw [← hV] at ad
              have HV := Lib.hid (show V.data.toList = (a :: s) ++ List.replicate (i + 1) 32 by rw [hV]; exact blank_add U _ i HU.out)
              have hVs : V.size ≤ 15 + (i + 1) := by rw [hV, ByteArray.size_append, show (⟨#[32]⟩ : ByteArray).size = 1 from rfl]; omega
              clear hV HU
              go_wp2_with fail
              go_roundw
              case rel => exact ⟨i + 1, V, rfl, by go_num, by omega, hVs, HV, trivial⟩
              case measure => simp [intOf]; omega
            · have d3 : decide ((i : Int) ≤ (b : Int) % 3) = false := decide_eq_false (by rw [HM.out]; omega)
              have HI := Lib.hid (show i = m + 1 by omega)
              obtain ⟨V, hV⟩ : ∃ V, V = LN ++ U := ⟨_, rfl⟩
              have ad := add_str LN U (by omega)
              rw [← hV] at ad
              have HV := Lib.hid (show V.data.toList = spread m (W ++ [a :: s]) by rw [hV]; exact spread_add m W _ LN U HLN.out (by rw [← HI.out]; exact HU.out))
              have hVs : V.size ≤ 18 * (k + 1) := by have := HI.out; rw [hV, ByteArray.size_append]; omega
              clear hV HU
              go_wp2_with fail
              go_roundw
              case rel => exact ⟨k + 1, nW + 1, V, W ++ [a :: s], r4, d4, rfl, rfl, by go_num, by omega, by omega, hVs, HNW1, HP, HV, HO4, HB4⟩
              case measure => simp [intOf]; omega
    · have HK := Lib.hid (show LineOk m W by rw [HW.out]; exact lineOk_of x k m hk32 hm2)
      obtain ⟨r', d', hv, hSs, -⟩ := HO.out.ss
      rw [← HNW.out] at hv
      injection hv with e1 e2 e3
      subst e1 e3
      have HSs := Lib.hid hSs
      obtain ⟨bt, hbt⟩ : ∃ bt, bt = both := ⟨_, rfl⟩
      have hnW : nW ≤ 32 := by rw [HNW.out]; exact HK.out.many
      have tst : (¬ k < n) ∨ (k < n ∧ k = 32) := by omega
      clear hSs HO HW HM hm2 hgo hk HX HZ HN
      rcases tst with g | ⟨g, rfl⟩
      all_goals
        first
          | have d1 : decide ((k : Int) < (n : Int)) = false := decide_eq_false (by omega)
          | have d1 : decide ((32 : Int) < (n : Int)) = true := decide_eq_true (by omega)
            have d2 : decide ((32 : Int) < 32) = false := decide_eq_false (by omega)
        cases both
        all_goals
          go_upto_region 19 with fail
          obtain ⟨EN, hEN⟩ : ∃ EN : ByteArray, EN = ⟨(lineEnd bt).toArray⟩ := ⟨_, rfl⟩
          have hEN' := hEN
          rw [hbt] at hEN'
          first
            | rw [show (⟨(lineEnd false).toArray⟩ : ByteArray) = ⟨#[10]⟩ from rfl] at hEN'; rw [← hEN']
            | rw [show (⟨(lineEnd true).toArray⟩ : ByteArray) = ⟨#[13, 10]⟩ from rfl] at hEN'; rw [← hEN']
          have HEN := Lib.hid (show EN.data.toList = lineEnd bt by rw [hEN])
          have hEs : EN.size ≤ 2 := by rw [hEN, size_bytes]; exact lineEnd_len bt
          clear hEN hEN' hbt
          have hLs : LN.size ≤ 576 := by omega
          obtain ⟨LE, hLE⟩ : ∃ LE, LE = LN ++ EN := ⟨_, rfl⟩
          have ad1 := add_str LN EN (by omega)
          rw [← hLE] at ad1
          have HLE := Lib.hid (show LE.data.toList = spread m W ++ lineEnd bt by rw [hLE, ← HLN.out, ← HEN.out]; simp)
          obtain ⟨N, hN⟩ : ∃ N, N = LE.size := ⟨_, rfl⟩
          have hNs : N = LN.size + EN.size := by rw [hN, hLE, ByteArray.size_append]
          have HNk := Lib.hid (show (spread m W).length + (lineEnd bt).length = N by rw [← List.length_append, ← HLE.out, str_len, hN])
          have cv1 := run_bytes wr LE
          have hA1 := ans_conv wr LE (by omega)
          have HB1 := Lib.hid (below_conv wr LE)
          obtain ⟨c1, hc1⟩ : ∃ c1, c1 = grownCap wr LE.size 0 5 := ⟨_, rfl⟩
          obtain ⟨W1, hW1⟩ : ∃ W1, W1 = Lib.bytesWorld wr 5 LE := ⟨_, rfl⟩
          rw [← hc1, ← hW1, ← hN] at cv1 hA1
          rw [← hW1] at HB1
          obtain ⟨p1, c1', hv1, hBs1, h11, h12, h13⟩ := ans_form hA1 N (by rw [str_len, hN])
          injection hv1 with e1 _ e3
          subst e1 e3
          have HBw1 := Lib.hid (HB.out.trans (HB1.out.mono HB.out.size))
          have CN := Lib.hid (next_any (some ⟨wr.heap.size, 0, none⟩) LE.data.toList N c1 W1 (by rw [str_len, hN]) hBs1 h11 h12 (by omega) h13 (HG.out.keep HBw1.out))
          rw [HLE.out, HK.out.next0 bt, HNk.out] at CN
          have HSs1 := Lib.hid (HSs.out.keep HB1.out)
          have z1 : ((N : Int) != (LN.size : Int) + (EN.size : Int)) = false := by rw [bne_eq_false_iff_eq]; omega
          clear hLE hN hc1 hW1 hA1 hBs1 h11 h12 h13 hNs
          go_wp2_with fail
          refine CN.out.mono ?_
          rintro e w3 h3
          obtain ⟨v3, rfl, ha3, hb3⟩ := nextP_is h3
          obtain ⟨q3, c3, rfl, hS3, -⟩ := ansS_form ha3 nW HNW.out.symm
          have HBw3 := Lib.hid (HBw1.out.trans (hb3.mono HBw1.out.size))
          have HSs3 := Lib.hid (HSs1.out.keep hb3)
          have CT := Lib.hid (same_texts q3 r W W nW nW c3 d w3 HNW.out.symm HNW.out.symm hS3 HSs3.out (by omega))
          rw [decide_eq_true (rfl : W = W)] at CT
          clear ha3 hb3 h3 hS3 CN HSs1 HBw1 cv1 ad1
          go_wp2_with fail
          refine CT.out.mono ?_
          rintro e w4 ⟨rfl, hb4⟩
          have HBw4 := Lib.hid (HBw3.out.trans (hb4.mono HBw3.out.size))
          have HSs4 := Lib.hid (HSs3.out.keep hb4)
          have CW := Lib.hid (new_rd w4 (HG.out.keep HBw4.out))
          clear hb4 CT HSs3 HBw3
          go_wp2_with fail
          refine CW.out.mono ?_
          rintro e w5 ⟨a, F, rfl, hR5, hF5, hb5⟩
          have HF5 := Lib.hid (fun k hk => Nat.le_trans HBw4.out.size (hF5 k hk))
          have HX5 := Lib.hid (ss_new HSs4.out hb5 hF5)
          have HBw5 := Lib.hid (HBw4.out.trans (hb5.mono HBw4.out.size))
          obtain ⟨A1, hA1⟩ : ∃ A, A = EN ++ ⟨#[32, 32]⟩ := ⟨_, rfl⟩
          obtain ⟨A2, hA2⟩ : ∃ A, A = A1 ++ EN := ⟨_, rfl⟩
          obtain ⟨A3, hA3⟩ : ∃ A, A = A2 ++ LN := ⟨_, rfl⟩
          obtain ⟨A4, hA4⟩ : ∃ A, A = A3 ++ EN := ⟨_, rfl⟩
          have s32 : (⟨#[32, 32]⟩ : ByteArray).size = 2 := rfl
          have s1 : A1.size ≤ 4 := by rw [hA1, ByteArray.size_append, s32]; omega
          have s2 : A2.size ≤ 6 := by rw [hA2, ByteArray.size_append]; omega
          have s3 : A3.size ≤ 590 := by rw [hA3, ByteArray.size_append]; omega
          have s4 : A4.size ≤ 600 := by rw [hA4, ByteArray.size_append]; omega
          have ad1 := add_str EN ⟨#[32, 32]⟩ (by rw [s32]; omega)
          have ad2 := add_str A1 EN (by omega)
          have ad3 := add_str A2 LN (by omega)
          have ad4 := add_str A3 EN (by omega)
          rw [← hA1] at ad1
          rw [← hA2] at ad2
          rw [← hA3] at ad3
          rw [← hA4] at ad4
          have HA4 := Lib.hid (show A4.data.toList = fedL m W bt by
            rw [hA4, hA3, hA2, hA1]
            unfold fedL
            rw [← HLN.out, ← HEN.out]
            simp)
          obtain ⟨M, hM⟩ : ∃ M, M = A4.size := ⟨_, rfl⟩
          have cv2 := run_bytes w5 A4
          have hAn := ans_conv w5 A4 (by omega)
          have hbc := below_conv w5 A4
          obtain ⟨c2, hc2⟩ : ∃ c2, c2 = grownCap w5 A4.size 0 5 := ⟨_, rfl⟩
          obtain ⟨W2, hW2⟩ : ∃ W2, W2 = Lib.bytesWorld w5 5 A4 := ⟨_, rfl⟩
          rw [← hc2, ← hW2, ← hM] at cv2 hAn
          rw [← hW2] at hbc
          obtain ⟨p2, c2', hv2, hBs2, h21, h22, h23⟩ := ans_form hAn M (by rw [str_len, hM])
          injection hv2 with e1 _ e3
          subst e1 e3
          have HBw6 := Lib.hid (HBw5.out.trans (hbc.mono HBw5.out.size))
          have HX6 := Lib.hid (HX5.out.keep hbc)
          have CF := Lib.hid (feed_rd W2 F a [] false (some ⟨w5.heap.size, 0, none⟩) A4.data.toList M c2 (rd_below hR5 hbc) (by rw [str_len, hM]) hBs2 h21 h22 h23 (by simp; omega) (HG.out.keep HBw6.out))
          rw [List.nil_append, HA4.out] at CF
          obtain ⟨o, ho1, ho2, ho3⟩ := HK.out.fed bt
          have HFl := Lib.hid (show (fedL m W bt).length ≤ 65536 by have := fedL_len HK.out bt; omega)
          obtain ⟨L, hL⟩ : ∃ L, L = fedL m W bt := ⟨_, rfl⟩
          rw [← hL] at CF ho1 HFl
          have HO1 := Lib.hid ho1
          have HO2 := Lib.hid ho2
          obtain ⟨BB, hBB⟩ : ∃ BB, BB = o.isSome := ⟨_, rfl⟩
          have d5 : decide ((0 : Int) < (nW : Int)) = BB := by
            rw [hBB, ho3, Bool.eq_iff_iff, decide_eq_true_eq, decide_eq_true_eq, ← HNW.out]
            omega
          have d6 : decide (0 < nW) = BB := by
            rw [hBB, ho3, ← HNW.out]
          have HBB := Lib.hid hBB
          clear hA1 hA2 hA3 hA4 hM hc2 hW2 hAn hBs2 h21 h22 h23 hbc hR5 hF5 hb5 CW HSs4 HBw4 HX5 HBw5 ho1 ho2 ho3 hL hBB s1 s2 s3 s4
          go_wp2_with fail
          refine CF.out.mono ?_
          rintro e w6 ⟨F6, rfl, hR6, hT6⟩
          have HX7 := Lib.hid (HX6.out.turn hT6)
          have HBw7 := Lib.hid (HBw6.out.trans (hT6.below HF5.out HBw6.out.size))
          have HF7 := Lib.hid (hT6.ge HF5.out HBw6.out.size)
          have CX := Lib.hid (next_rd w6 F6 a L false o [] false hR6 HO1.out HFl.out (HG.out.keep HBw7.out))
          rw [← HBB.out, HO2.out] at CX
          clear hR6 hT6 CF HX6 HBw6 HF5
          go_wp2_with fail
          refine CX.out.mono ?_
          rintro e w7 ⟨F7, u7, rfl, ha7, hok7, hR7, hT7⟩
          obtain ⟨q7, c7, rfl, hS7, -⟩ := ansS_form ha7 nW HNW.out.symm
          have HX8 := Lib.hid (HX7.out.turn hT7)
          have HBw8 := Lib.hid (HBw7.out.trans (hT7.below HF7.out HBw7.out.size))
          have CT2 := Lib.hid (same_texts q7 r W W nW nW c7 d w7 HNW.out.symm HNW.out.symm hS7 HX8.out.1 (by omega))
          rw [decide_eq_true (rfl : W = W)] at CT2
          have HR7 := Lib.hid hR7
          clear ha7 hok7 hR7 hT7 hS7 CX HX7 HBw7
          go_wp2_with fail
          refine CT2.out.mono ?_
          rintro e w8 ⟨rfl, hb8⟩
          have HBw9 := Lib.hid (HBw8.out.trans (hb8.mono HBw8.out.size))
          have CL : Hid (Calls Tryd.prog 22 #[.pointer (some a)] w8 (fun e w' => e = .returned (.int .i64 0) ∧ Below w8.heap.size w8 w')) := Lib.hid (left_rd w8 F7 a [] false (rd_below HR7.out hb8) (HG.out.keep HBw9.out))
          clear hb8 CT2 HBw8 HX8 HR7
          go_wp2_with fail
          refine (show Calls _ _ _ _ _ from CL.out).mono ?_
          rintro e w9 ⟨rfl, hb9⟩
          have HBw10 := Lib.hid (HBw9.out.trans (hb9.mono HBw9.out.size))
          clear hb9 CL
          go_wp2_with fail
          go_ret
          exact ⟨rfl, HBw10.out⟩

theorem walk (q : Option Addr) (x : List (List UInt8)) (n c : Nat) (b : Int) (both : Bool) (w : World) (hn : x.length = n) (hx : Ss w q x) (hzx : ∀ s ∈ x, s.length ≤ 140737488351232) (hn9 : n ≤ 9223372036854775807) (h0 : 0 ≤ b) (h1 : b ≤ 255) (hg : Gd w) :
    Calls Tryd.prog 6 #[.slice q n c, .int .u8 b, .bool both] w fun e w' => e = .returned (.bool true) ∧ Below w.heap.size w w' := by
  obtain ⟨j, rfl⟩ := Int.eq_ofNat_of_zero_le h0
  exact walk0 q x n c j both w hn hx hn9 hzx (by omega) hg

end Go.Proofs.YtadffjmpkeaikaaDoor.frameLines
