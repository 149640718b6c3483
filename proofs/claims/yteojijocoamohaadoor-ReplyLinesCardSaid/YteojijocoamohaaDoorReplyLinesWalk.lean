/-
  'tipstafflaw05.ReplyLines': for all texts it answers true.
-/
import Derived.Test.YteojijocoamohaaDoorReplyFew
import Derived.Deep.RegionHeld
namespace Go.Proofs.YteojijocoamohaaDoor.replyLines
open Go.RowKit Kit BytesIn ReplyMath ReplyT ReplyM ReplyL NumMath NumL
set_option linter.unusedVariables false
set_option maxRecDepth 100000
-- ASKS: NumL.Gt

theorem ok_slice {w : World} {v : Value} {l : List UInt8} (h : Ok w v l) (n : Nat) (hn : l.length = n) : ∃ p c, v = .slice p n c ∧ Bs w p l ∧ n ≤ c ∧ c ≤ 9223372036854775807 ∧ (p = none → c = 0) := by
  subst hn
  exact h
def lineOf (k : UInt8) (l : List UInt8) : List UInt8 := k :: (flat l ++ [13, 10])
theorem lineOf_len (k : UInt8) (l : List UInt8) (z : Nat) (h : l.length = z) : (lineOf k l).length = z + 3 := by
  simp only [lineOf, List.length_cons, List.length_append, flat_le, List.length_nil]
  omega
theorem lineOf_at (k : UInt8) (l : List UInt8) (z : Nat) (h : l.length = z) (i : Nat) (hi : i < z) : (lineOf k l)[i + 1]'(by rw [lineOf_len k l z h]; omega) = fl (l[i]'(by omega)) := by
  have hf : i < (flat l).length := by rw [flat_le]; omega
  show (flat l ++ [13, 10])[i]'(by rw [List.length_append]; omega) = _
  rw [List.getElem_append_left hf]
  simp [flat]
theorem lineOf_cr (k : UInt8) (l : List UInt8) (z : Nat) (h : l.length = z) : (lineOf k l)[z + 1]'(by rw [lineOf_len k l z h]; omega) = 13 := by
  have hf : (flat l).length = z := by rw [flat_le]; omega
  show (flat l ++ [13, 10])[z]'(by rw [List.length_append, hf]; simp) = _
  rw [List.getElem_append_right (by omega)]
  simp [hf]
theorem lineOf_lf (k : UInt8) (l : List UInt8) (z : Nat) (h : l.length = z) : (lineOf k l)[z + 2]'(by rw [lineOf_len k l z h]; omega) = 10 := by
  have hf : (flat l).length = z := by rw [flat_le]; omega
  show (flat l ++ [13, 10])[z + 1]'(by rw [List.length_append, hf]; simp) = _
  rw [List.getElem_append_right (by omega)]
  simp [hf]
theorem idx_at (R : ByteArray) (i : Nat) (c : UInt8) (h : R.data.toList[i]? = some c) (k : Int) (hk : k = (i : Int)) (w : World) : (Instr.index 9 (.string R) (.int .i64 k)).run Tryd.prog w = .ok (.int .u8 (c.toNat : Int)) w := by
  subst hk
  have hl : R.data.toList.length = R.size := by simp
  have hi : i < R.size := by
    rcases Nat.lt_or_ge i R.size with h' | h'
    · exact h'
    · rw [List.getElem?_eq_none (by omega)] at h; cases h
  rw [run_index_string _ _ _ _ _ Tryd.underlying9, dif_pos ⟨by omega, by omega⟩]
  have e : R[i] = c := by
    have h2 : R.data.toList[i]? = some R[i] := by rw [List.getElem?_eq_getElem (by omega)]; rfl
    rw [h] at h2
    exact (Option.some.inj h2).symm
  simp only [Int.toNat_natCast, e]
theorem nat_ne {c d : UInt8} (h : c ≠ d) : ((c.toNat : Int) == (d.toNat : Int)) = false := by
  have : c.toNat ≠ d.toNat := fun h' => h (UInt8.toNat_inj.1 h')
  rw [beq_eq_false_iff_ne]
  omega
theorem nat_bne {c d : UInt8} (h : c ≠ d) : ((c.toNat : Int) != (d.toNat : Int)) = true := by
  unfold bne
  rw [nat_ne h]
  rfl

set_option maxHeartbeats 800000 in
theorem walk (s : ByteArray) (w : World) (hs : s.size ≤ 140737488351232) (hg : Gt w) :
    Calls Tryd.prog 5 #[.string s] w fun e w' => e = .returned (.bool true) ∧ Below w.heap.size w w' := by
  have HG := Lib.hid hg
  have CS := Lib.hid (shown_any w hg)
  obtain ⟨T, hT⟩ : ∃ T : ByteArray, T = ⟨(s.data.toList.take 100).toArray⟩ := ⟨_, rfl⟩
  have hTz : T.size ≤ 100 := by rw [hT, size_bytes, List.length_take]; omega
  have CSh := Lib.hid (fun W => (show Calls Tryd.prog 9 #[.string s] W (fun e w' => e = .returned (.string T) ∧ W = w') by rw [hT]; exact short_any s W hs))
  have HTl := Lib.hid (str_len T)
  clear hT hg
  go_enter Tryd.func5, Tryd.ntmps5
  go_wp2_with fail
  with_reducible refine CS.out.mono ?_
  rintro e w1 ⟨rfl, hb1⟩
  have HB1 := Lib.hid hb1
  clear hb1 CS
  go_wp2_with fail
  with_reducible refine (CSh.out _).mono ?_
  rintro e w' ⟨rfl, rfl⟩
  clear CSh
  go_wp2_with fail
  go_loopw [4] (fun i wr => ∃ k : Nat, k ≤ 2 ∧ i = .int .i64 k ∧ Hid (Below w.heap.size w wr)) (fun i _ => 2 - (intOf i).toNat)
  case atStart => exact ⟨0, Nat.zero_le _, rfl, HB1⟩
  case round =>
    obtain ⟨k, hk, rfl, HBr⟩ := hrel
    by_cases hk2 : k < 2
    · have d1 : decide ((k : Int) < 2) = true := decide_eq_true (by omega)
      have C1 := Lib.hid (simple_any T wr (by omega) (HG.out.keep HBr.out))
      go_wp2_with fail
      with_reducible refine C1.out.mono ?_
      rintro e w2 ⟨x, rfl, hx, hb2⟩
      have HB2 := Lib.hid (HBr.out.trans (hb2.mono HBr.out.size))
      rcases (show k = 0 ∨ k = 1 by omega) with rfl | rfl
      · obtain ⟨pX, cX, rfl, hBX, hcX, hcmX, hnX⟩ := ok_slice hx.ok (T.size + 3) (lineOf_len 43 _ _ HTl.out)
        have HBX := Lib.hid (show Bs w2 pX (lineOf 43 T.data.toList) from hBX)
        obtain ⟨b, off, rfl, hlb, hcell⟩ := HBX.out (by rw [lineOf_len 43 _ _ HTl.out]; omega)
        have c1 := hcell (T.size + 1) (by rw [lineOf_len 43 _ _ HTl.out]; omega)
        have c2 := hcell (T.size + 2) (by rw [lineOf_len 43 _ _ HTl.out]; omega)
        rw [lineOf_cr 43 _ _ HTl.out] at c1
        rw [lineOf_lf 43 _ _ HTl.out] at c2
        have HC := Lib.hid (fun i (hi : i < T.size) => (show w2.cell? ⟨b, off + (i + 1), none⟩ = some (.int .u8 ((fl (T.data.toList[i]'(by rw [HTl.out]; exact hi))).toNat : Int)) by
          have h := hcell (i + 1) (by rw [lineOf_len 43 _ _ HTl.out]; omega)
          rw [h]
          congr 3
          exact congrArg UInt8.toNat (lineOf_at 43 _ _ HTl.out i hi)))
        have e1 : IntKind.i64.wrap ((T.size : Int) + 3) = (T.size : Int) + 3 := IntWalk.i64_in _ (by omega)
        have e2 : IntKind.i64.wrap ((T.size : Int) + 3 - 2) = (T.size : Int) + 1 := by rw [IntWalk.i64_in _ (by omega)]; omega
        have e3 : IntKind.i64.wrap ((T.size : Int) + 3 - 1) = (T.size : Int) + 2 := by rw [IntWalk.i64_in _ (by omega)]; omega
        clear hx hb2 hBX hnX hcell
        go_wp2_with fail
        go_loopw [6] (fun i wr => ∃ j : Nat, j ≤ T.size ∧ i = .int .i64 j ∧ wr = w2) (fun i _ => T.size - (intOf i).toNat)
        case atStart => exact ⟨0, Nat.zero_le _, rfl, rfl⟩
        case round =>
          obtain ⟨j, hj, rfl, rfl⟩ := hrel
          by_cases hjz : j < T.size
          · have cj := HC.out j hjz
            have e4 : IntKind.i64.wrap ((j : Int) + 1) = (j : Int) + 1 := IntWalk.i64_in _ (by omega)
            obtain ⟨y, hy⟩ : ∃ y, y = T.data.toList[j]'(by rw [HTl.out]; exact hjz) := ⟨_, rfl⟩
            have i1 := fun W => idx_at T j y (by rw [hy]; exact List.getElem?_eq_getElem _) (j : Int) rfl W
            rw [← hy] at cj
            clear hy c1 c2 e1 e2 e3
            by_cases h13 : y = 13
            · subst h13
              rw [show fl 13 = 32 from rfl] at cj
              go_wp2_with fail
              go_roundw
              case rel => exact ⟨j + 1, by omega, by go_num, (by trivial)⟩
              case measure => simp [intOf]; omega
            · by_cases h10 : y = 10
              · subst h10
                rw [show fl 10 = 32 from rfl] at cj
                go_wp2_with fail
                go_roundw
                case rel => exact ⟨j + 1, by omega, by go_num, (by trivial)⟩
                case measure => simp [intOf]; omega
              · rw [show fl y = y by unfold fl; rw [if_neg (by simp [h13, h10])]] at cj
                have t1 : ((y.toNat : Int) == 13) = false := nat_ne h13
                have t2 : ((y.toNat : Int) == 10) = false := nat_ne h10
                go_wp2_with fail
                go_roundw
                case rel => exact ⟨j + 1, by omega, by go_num, (by trivial)⟩
                case measure => simp [intOf]; omega
          · go_wp2_with fail
            go_roundw
            case rel => exact ⟨1, by omega, by go_num, HB2⟩
            case measure => simp [intOf]
      · have C2 := Lib.hid (err_any T w2 (by omega) (HG.out.keep HB2.out))
        obtain ⟨pY, cY, rfl⟩ := hx.form
        clear C1
        go_wp2_with fail
        with_reducible refine C2.out.mono ?_
        rintro e w3 ⟨x, rfl, hx, hb3⟩
        have HB3 := Lib.hid (HB2.out.trans (hb3.mono HB2.out.size))
        obtain ⟨pX, cX, rfl, hBX, hcX, hcmX, hnX⟩ := ok_slice hx.ok (T.size + 3) (lineOf_len 45 _ _ HTl.out)
        have HBX := Lib.hid (show Bs w3 pX (lineOf 45 T.data.toList) from hBX)
        obtain ⟨b, off, rfl, hlb, hcell⟩ := HBX.out (by rw [lineOf_len 45 _ _ HTl.out]; omega)
        have c1 := hcell (T.size + 1) (by rw [lineOf_len 45 _ _ HTl.out]; omega)
        have c2 := hcell (T.size + 2) (by rw [lineOf_len 45 _ _ HTl.out]; omega)
        rw [lineOf_cr 45 _ _ HTl.out] at c1
        rw [lineOf_lf 45 _ _ HTl.out] at c2
        have HC := Lib.hid (fun i (hi : i < T.size) => (show w3.cell? ⟨b, off + (i + 1), none⟩ = some (.int .u8 ((fl (T.data.toList[i]'(by rw [HTl.out]; exact hi))).toNat : Int)) by
          have h := hcell (i + 1) (by rw [lineOf_len 45 _ _ HTl.out]; omega)
          rw [h]
          congr 3
          exact congrArg UInt8.toNat (lineOf_at 45 _ _ HTl.out i hi)))
        have e1 : IntKind.i64.wrap ((T.size : Int) + 3) = (T.size : Int) + 3 := IntWalk.i64_in _ (by omega)
        have e2 : IntKind.i64.wrap ((T.size : Int) + 3 - 2) = (T.size : Int) + 1 := by rw [IntWalk.i64_in _ (by omega)]; omega
        have e3 : IntKind.i64.wrap ((T.size : Int) + 3 - 1) = (T.size : Int) + 2 := by rw [IntWalk.i64_in _ (by omega)]; omega
        clear hx hb2 hBX hnX hcell hb3
        go_wp2_with fail
        go_loopw [6] (fun i wr => ∃ j : Nat, j ≤ T.size ∧ i = .int .i64 j ∧ wr = w3) (fun i _ => T.size - (intOf i).toNat)
        case atStart => exact ⟨0, Nat.zero_le _, rfl, rfl⟩
        case round =>
          obtain ⟨j, hj, rfl, rfl⟩ := hrel
          by_cases hjz : j < T.size
          · have cj := HC.out j hjz
            have e4 : IntKind.i64.wrap ((j : Int) + 1) = (j : Int) + 1 := IntWalk.i64_in _ (by omega)
            obtain ⟨y, hy⟩ : ∃ y, y = T.data.toList[j]'(by rw [HTl.out]; exact hjz) := ⟨_, rfl⟩
            have i1 := fun W => idx_at T j y (by rw [hy]; exact List.getElem?_eq_getElem _) (j : Int) rfl W
            rw [← hy] at cj
            clear hy c1 c2 e1 e2 e3
            by_cases h13 : y = 13
            · subst h13
              rw [show fl 13 = 32 from rfl] at cj
              go_wp2_with fail
              go_roundw
              case rel => exact ⟨j + 1, by omega, by go_num, (by trivial)⟩
              case measure => simp [intOf]; omega
            · by_cases h10 : y = 10
              · subst h10
                rw [show fl 10 = 32 from rfl] at cj
                go_wp2_with fail
                go_roundw
                case rel => exact ⟨j + 1, by omega, by go_num, (by trivial)⟩
                case measure => simp [intOf]; omega
              · rw [show fl y = y by unfold fl; rw [if_neg (by simp [h13, h10])]] at cj
                have t1 : ((y.toNat : Int) == 13) = false := nat_ne h13
                have t2 : ((y.toNat : Int) == 10) = false := nat_ne h10
                go_wp2_with fail
                go_roundw
                case rel => exact ⟨j + 1, by omega, by go_num, (by trivial)⟩
                case measure => simp [intOf]; omega
          · go_wp2_with fail
            go_roundw
            case rel => exact ⟨2, by omega, by go_num, HB3⟩
            case measure => simp [intOf]
    · obtain rfl : k = 2 := by omega
      have C3 := Lib.hid (bulk_any T wr (by omega) (HG.out.keep HBr.out))
      go_wp2_with fail
      with_reducible refine C3.out.mono ?_
      rintro e w2 ⟨x, rfl, hx, hb2⟩
      have HB2 := Lib.hid (HBr.out.trans (hb2.mono HBr.out.size))
      obtain ⟨N, hN⟩ : ∃ N : Nat, N = (Lib.itoa (T.data.toList.length : Int)).length := ⟨_, rfl⟩
      have hN1 : 1 ≤ N := by rw [hN]; exact itoa_len_pos _
      have hN2 : N ≤ 20 := by rw [hN]; exact itoa_len _ (by omega) (by rw [HTl.out]; omega)
      have hbl : (bulk T.data.toList).length = N + 3 + T.size + 2 := by
        simp only [bulk, List.length_cons, List.length_append, List.length_nil, HTl.out]
        rw [HTl.out] at hN
        omega
      obtain ⟨pX, cX, rfl, hBX, hcX, hcmX, hnX⟩ := ok_slice hx.ok (N + 3 + T.size + 2) hbl
      have HBX := Lib.hid hBX
      have HBT := Lib.hid (show ((bulk T.data.toList).drop (N + 3)).take T.size = T.data.toList by
        have e : bulk T.data.toList = (36 :: (Lib.itoa (T.data.toList.length : Int) ++ [13, 10])) ++ (T.data.toList ++ [13, 10]) := by simp [bulk]
        rw [e, List.drop_left' (by simp only [List.length_cons, List.length_append, List.length_nil]; omega), List.take_left' HTl.out])
      have HTx := Lib.hid (show texts [T.data.toList] = [42, 49, 13, 10] ++ bulk T.data.toList by
        have h1 : Lib.itoa (1 : Int) = [49] := by decide +kernel
        simp [texts, array, h1])
      have d2 : decide ((T.size : Int) + 4 < (N : Int) + 3 + (T.size : Int) + 2) = true := decide_eq_true (by omega)
      have e1 : IntKind.i64.wrap ((T.size : Int) + 4) = (T.size : Int) + 4 := IntWalk.i64_in _ (by omega)
      have e2 : IntKind.i64.wrap ((N : Int) + 3 + (T.size : Int) + 2 - 2) = (N : Int) + 3 + (T.size : Int) := by rw [IntWalk.i64_in _ (by omega)]; omega
      have e3 : IntKind.i64.wrap ((N : Int) + 3 + (T.size : Int) - (T.size : Int)) = (N : Int) + 3 := by rw [IntWalk.i64_in _ (by omega)]; omega
      have e4 : IntKind.i64.wrap ((N : Int) + 3 + (T.size : Int)) = (N : Int) + 3 + (T.size : Int) := IntWalk.i64_in _ (by omega)
      have e5 : IntKind.i64.wrap ((N : Int) + 3) = (N : Int) + 3 := IntWalk.i64_in _ (by omega)
      obtain ⟨P1, hP1⟩ : ∃ P1, P1 = ReplyT.partAt pX cX (N + 3) := ⟨_, rfl⟩
      have q1 : ∀ W, (Instr.slice 23 (.slice pX (N + 3 + T.size + 2) cX) (some (.int .i64 ((N : Int) + 3))) (some (.int .i64 ((N : Int) + 3 + (T.size : Int)))) none).run Tryd.prog W = .ok (.slice P1 T.size (cX - (N + 3))) W := fun W => by
        have h := sl_lh pX (N + 3 + T.size + 2) cX (N + 3) (N + 3 + T.size) (by omega) (by omega) W
        rw [← hP1, show N + 3 + T.size - (N + 3) = T.size by omega, show ((N + 3 : Nat) : Int) = (N : Int) + 3 by omega, show ((N + 3 + T.size : Nat) : Int) = (N : Int) + 3 + (T.size : Int) by omega] at h
        exact h
      have hP : Bs w2 P1 T.data.toList := by
        have h := partAt_bs (c := cX) hBX (by rw [hbl]; exact hcX) (N + 3) (N + 3 + T.size) (by rw [hbl]; omega)
        rw [← hP1, show N + 3 + T.size - (N + 3) = T.size by omega, HBT.out] at h
        exact h
      obtain ⟨BS, hBS⟩ : ∃ BS : ByteArray, BS = ⟨(bulk T.data.toList).toArray⟩ := ⟨_, rfl⟩
      have HTS := Lib.hid (show (⟨(texts [T.data.toList]).toArray⟩ : ByteArray) = ⟨#[42, 49, 13, 10]⟩ ++ BS from same_bytes (by rw [hBS, HTx.out]; simp))
      have hBz : BS.size ≤ 200 := by rw [hBS, size_bytes, hbl]; omega
      have hz3 : ¬ (9223372036854775807 < 4 + BS.size) := by omega
      have cv1 : ∀ W, Below w2.heap.size w2 W → (convert 23 9 (.slice P1 T.size (cX - (N + 3)))).run Tryd.prog W = .ok (.string T) W := fun W h => by
        have h1 := bs_string (hP.keep h) T.size (cX - (N + 3)) HTl.out.symm
        rwa [str_self] at h1
      have cv2 : ∀ W, Below w2.heap.size w2 W → (convert 23 9 (.slice pX (N + 3 + T.size + 2) cX)).run Tryd.prog W = .ok (.string BS) W := fun W h => by
        rw [hBS]
        exact bs_string (hBX.keep h) _ cX hbl.symm
      have b1 : Below w2.heap.size w2 w2.drew := (Below.refl _ _).drew
      have b2 : ∀ o, Below w2.heap.size w2 (w2.drew.alloc o) := fun o => (Below.refl _ w2).drew.alloc (Nat.le_refl _) o
      have b3 : ∀ o, Below w2.heap.size w2 (w2.alloc o).drew := fun o => bel_a w2 o
      have CTx := Lib.hid (fun W (h : Below w2.heap.size w2 W) (hlt : w2.heap.size < W.heap.size) (hc : W.cell? ⟨w2.heap.size, 0, none⟩ = some (.string T)) =>
        (show Calls Tryd.prog 25 #[.slice (some ⟨w2.heap.size, 0, none⟩) 1 1] W (fun e w' => ∃ pY cY, e = .returned (.slice pY (4 + BS.size) cY) ∧ (∀ V, Below w'.heap.size w' V → (convert 23 9 (.slice pY (4 + BS.size) cY)).run Tryd.prog V = .ok (.string (⟨#[42, 49, 13, 10]⟩ ++ BS)) V) ∧ Below w2.heap.size w2 w' ∧ Below w'.heap.size w' w') from
          (texts_any (some ⟨w2.heap.size, 0, none⟩) [T.data.toList] 1 1 W rfl (fun _ => ⟨_, 0, rfl, hlt, fun j hj => by
            match j, hj with
            | 0, _ => exact hc
            | j + 1, hj => simp at hj⟩) (Nat.le_refl _) (by decide) (fun h => by cases h) (by decide) (fun u hu => by simp at hu; subst hu; rw [HTl.out]; omega) (HG.out.keep (HB2.out.trans (h.mono HB2.out.size)))).mono (by
            rintro e w' ⟨y, rfl, hy, hb'⟩
            obtain ⟨pY, cY, rfl, hBY, -⟩ := ok_slice hy.ok (4 + BS.size) (by rw [HTx.out, hBS, size_bytes, List.length_append]; rfl)
            refine ⟨pY, cY, rfl, fun V hV => ?_, h.trans (hb'.mono h.size), Below.refl _ _⟩
            have h1 := bs_string (hBY.keep hV) (4 + BS.size) cY (by rw [HTx.out, hBS, size_bytes, List.length_append]; rfl)
            rw [HTS.out] at h1
            exact h1)))
      clear hx hb2 C3 hN hP1 hP hBS hBX HBX HBT HTx HTS hnX
      go_wp2_with fail
      go_region_held (fun W => Below w2.heap.size w2 W) (first | assumption | exact (Below.refl _ _).drew | exact Below.alloc (by assumption) (Below.size (by assumption)) _)
        (first | (go_at_call 25; with_reducible refine (CTx.out _ (by first | assumption | exact b2 _ | exact b3 _) (by simp) (by simp [World.cell?_alloc_mark])).mono ?_; rintro e w3 ⟨pY, cY, rfl, cv3, b4, b5⟩))
      all_goals
        clear cv1 cv2 cv3 b1 b2 b3 b5
        go_wp2_with fail
        go_ret
        exact ⟨rfl, HB2.out.trans (b4.mono HB2.out.size)⟩

end Go.Proofs.YteojijocoamohaaDoor.replyLines
