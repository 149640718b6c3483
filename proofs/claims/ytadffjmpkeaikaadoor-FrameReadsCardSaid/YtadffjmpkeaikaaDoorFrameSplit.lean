/-
  The landed code of layer 6: frame.split, what stands between blanks.
-/
import Derived.Test.YtadffjmpkeaikaaDoorFrameLine
import Derived.Deep.LoopGhost
namespace Go.Proofs.YtadffjmpkeaikaaDoor.FrameM
open Go.RowKit Kit BytesIn ReplyMath ReplyT NumMath FrameMath FrameT
set_option linter.unusedVariables false
set_option maxRecDepth 100000

theorem words_blank {l : List UInt8} {W : List (List UInt8)} {k : Nat} (hk : k < l.length) (h : wordsL l = W ++ wordsOn [] (l.drop k)) (hb : l[k] = 32) : wordsL l = W ++ wordsOn [] (l.drop (k + 1)) := by
  rw [h, List.drop_eq_getElem_cons hk, hb, wordsOn, if_pos rfl, if_pos rfl]
theorem words_on {l : List UInt8} {W : List (List UInt8)} {k t : Nat} (hkt : k ≤ t) (ht : t < l.length) (h : wordsL l = W ++ wordsOn ((l.drop k).take (t - k)) (l.drop t)) (hb : l[t] ≠ 32) : wordsL l = W ++ wordsOn ((l.drop k).take (t + 1 - k)) (l.drop (t + 1)) := by
  rw [h, List.drop_eq_getElem_cons ht, wordsOn, if_neg hb, show t + 1 - k = t - k + 1 by omega, List.take_succ_eq_append_getElem (show t - k < (l.drop k).length by rw [List.length_drop]; omega)]
  congr 2
  rw [List.getElem_drop]
  congr 3
  omega
theorem words_end {l : List UInt8} {W : List (List UInt8)} {k t : Nat} (hkt : k < t) (ht : t < l.length) (h : wordsL l = W ++ wordsOn ((l.drop k).take (t - k)) (l.drop t)) (hb : l[t] = 32) : wordsL l = (W ++ [(l.drop k).take (t - k)]) ++ wordsOn [] (l.drop (t + 1)) := by
  have hne : (l.drop k).take (t - k) ≠ [] := by
    intro e
    have := congrArg List.length e
    rw [List.length_take, List.length_drop] at this
    simp at this
    omega
  rw [h, List.drop_eq_getElem_cons ht, hb, wordsOn, if_pos rfl, if_neg hne, List.append_assoc]
  rfl
theorem words_last {l : List UInt8} {W : List (List UInt8)} {k t : Nat} (hkt : k < l.length) (ht : t = l.length) (h : wordsL l = W ++ wordsOn ((l.drop k).take (t - k)) (l.drop t)) : wordsL l = W ++ [l.drop k] := by
  subst ht
  have e : (l.drop k).take (l.length - k) = l.drop k := List.take_of_length_le (by rw [List.length_drop]; exact Nat.le_refl _)
  have hne : l.drop k ≠ [] := by
    intro e
    have := congrArg List.length e
    rw [List.length_drop] at this
    simp at this
    omega
  rw [h, e, List.drop_eq_nil_of_le (Nat.le_refl _), wordsOn, if_neg hne]
theorem words_done {l : List UInt8} {W : List (List UInt8)} {k : Nat} (hk : l.length ≤ k) (h : wordsL l = W ++ wordsOn [] (l.drop k)) : wordsL l = W := by
  rw [h, List.drop_eq_nil_of_le hk, wordsOn, if_pos rfl, List.append_nil]
theorem byte_is {k : UInt8} (h : k = 32) : ((k.toNat : Int) == 32) = true := by rw [h]; rfl
theorem byte_not {k : UInt8} (h : k ≠ 32) : ((k.toNat : Int) == 32) = false := by
  rw [beq_eq_false_iff_ne]
  intro e
  exact h (UInt8.toNat_inj.1 (by have : (32 : UInt8).toNat = 32 := rfl; omega))
theorem ownS_nil (base : Nat) (w : World) : OwnS base w (.slice none 0 0) [] := World.ownsRow_nil w base _ 1

set_option maxHeartbeats 4000000 in
theorem split_any (p : Option Addr) (l : List UInt8) (n c : Nat) (w : World) (hn : l.length = n) (hb : Bs w p l) (hc : n ≤ c) (hcm : c ≤ 9223372036854775807) (hz : n ≤ 65536) (hnil : p = none → c = 0) :
    Calls Tryd.prog 35 #[.slice p n c] w fun e w' => ∃ v, e = .returned v ∧ AnsS w.heap.size w' v (wordsL l) ∧ Below w.heap.size w w' := by
  have HN := Lib.hid hn
  have HB := Lib.hid hb
  have HO0 := Lib.hid (ownS_nil w.heap.size w)
  clear hn hb hnil
  go_enter Tryd.func35, Tryd.ntmps35
  go_wp2_with fail
  go_step3
  go_wp2_with fail
  go_step3
  go_wp2_with fail
  go_loopg [3, 4] n (fun g v i wr => ∃ (k : Nat) (W : List (List UInt8)), k + g = n ∧ i = .int .i64 k ∧ Below w.heap.size w wr ∧ Hid (OwnS w.heap.size wr v W) ∧ Hid (W.length ≤ k) ∧ Hid (wordsL l = W ++ wordsOn [] (l.drop k)))
  case atStart => exact ⟨0, [], by omega, rfl, Below.refl _ _, HO0, Lib.hid (Nat.zero_le _), Lib.hid rfl⟩
  case round =>
    obtain ⟨k, W, hkg, rfl, hb, HO, HWl, HW⟩ := hrel
    have hbs := hb.size
    clear HO0
    cases gk with
    | zero =>
      have t1 : decide ((k : Int) < (n : Int)) = false := decide_eq_false (by omega)
      have HF := Lib.hid (show wordsL l = W from words_done (by rw [HN.out]; omega) HW.out)
      go_wp2_with fail
      try rw [Exit.noGoto_ret]
      go_ret
      exact ⟨_, rfl, by rw [HF.out]; exact ownS_ans HO.out, hb⟩
    | succ g =>
      have hkn : k < n := by omega
      have t1 : decide ((k : Int) < (n : Int)) = true := decide_eq_true (by omega)
      have hkl : k < l.length := by rw [HN.out]; exact hkn
      obtain ⟨b, off, rfl, hbl, hcell⟩ := HB.out (by omega)
      have hcellr : ∀ j (h : j < l.length), wr.cell? ⟨b, off + j, none⟩ = some (.int .u8 (l[j].toNat : Int)) := fun j hj => by
        rw [hb.cell (p := ⟨b, off + j, none⟩) hbl]
        exact hcell j hj
      have HC := Lib.hid hcellr
      have HBW := Lib.hid (HB.out.keep hb)
      have hck := hcellr k hkl
      clear hcell hcellr
      by_cases h32 : l[k] = 32
      · have t2 := byte_is h32
        have HX := Lib.hid (words_blank hkl HW.out h32)
        obtain ⟨x, hx⟩ : ∃ x, x = l[k] := ⟨_, rfl⟩
        rw [← hx] at hck t2
        clear hx h32 hkl
        go_wp2_with fail
        go_roundg g
        case measure => omega
        case rel => exact ⟨k + 1, W, by omega, by go_num, hb, HO, Lib.hid (by have := HWl.out; omega), HX⟩
      · have t2 := byte_not h32
        have H32 := Lib.hid (show l[k]? ≠ some 32 by rw [List.getElem?_eq_getElem hkl]; exact fun e => h32 (Option.some.inj e))
        obtain ⟨x, hx⟩ : ∃ x, x = l[k] := ⟨_, rfl⟩
        rw [← hx] at hck t2
        clear hx h32 hkl
        go_wp2_with fail
        clear hck t2
        go_loopg [3, 4, 5] (n - k) (fun g2 v i t wy => ∃ T : Nat, k ≤ T ∧ T + g2 = n ∧ v = u3 ∧ i = .int .i64 k ∧ t = .int .i64 T ∧ wy = wr ∧ Hid (wordsL l = W ++ wordsOn ((l.drop k).take (T - k)) (l.drop T)))
        case atStart => exact ⟨k, Nat.le_refl _, by omega, rfl, rfl, rfl, rfl, Lib.hid (by rw [Nat.sub_self, List.take_zero]; exact HW.out)⟩
        case round =>
          obtain ⟨T, hkT, hTg, rfl, rfl, rfl, rfl, HT⟩ := hrel
          cases gk with
          | zero =>
            have t3 : decide ((T : Int) < (n : Int)) = false := decide_eq_false (by omega)
            obtain ⟨s, hs⟩ : ∃ s, s = l.drop k := ⟨_, rfl⟩
            have HF := Lib.hid (show wordsL l = W ++ [s] by rw [hs]; exact words_last (t := T) (by rw [HN.out]; exact hkn) (by rw [HN.out]; omega) HT.out)
            have q1 := fun W => sl_l (some ⟨b, off, none⟩) n c k (by omega) W
            have hsl : s.length = n - k := by rw [hs, List.length_drop, HN.out]
            have hBs : Bs wr (ReplyT.partAt (some ⟨b, off, none⟩) c k) s := by
              have h1 := partAt_bs (c := c) HBW.out (by rw [HN.out]; exact hc) k n (by rw [HN.out]; exact Nat.le_refl _)
              rwa [← hs, List.take_of_length_le (by omega)] at h1
            obtain ⟨P, hP⟩ : ∃ P, P = ReplyT.partAt (some ⟨b, off, none⟩) c k := ⟨_, rfl⟩
            rw [← hP] at q1 hBs
            have c1 := bs_string hBs (n - k) (c - k) hsl.symm
            obtain ⟨S, hS⟩ : ∃ S : ByteArray, S = ⟨s.toArray⟩ := ⟨_, rfl⟩
            have HS := Lib.hid (show S.data.toList = s by rw [hS])
            rw [← hS] at c1
            have HO1 := Lib.hid (HO.out.keep (below1 wr (.cells #[.string S] 9)))
            have HCl := Lib.hid (show (wr.alloc (.cells #[.string S] 9)).cell? ⟨wr.heap.size, 0, none⟩ = some (.string S) by simp [World.cell?_alloc_mark])
            have HWm := Lib.hid (show W.length ≤ 1048576 by have := HWl.out; omega)
            clear hs hsl hBs hP hS HT
            go_wp2_with (at_builtin; refine wpList_append_s (w0 := w) rfl (.tmp 38) (.tmp 43) rfl _ W rfl HO1.out (hb.alloc hbs _) wr.heap.size S _ 1 rfl HS.out HCl.out HWm.out ?_; intro v' w2 hown1 hb2)
            try rw [Exit.noGoto_ret]
            go_ret
            exact ⟨_, rfl, by rw [HF.out]; exact ownS_ans hown1, hb2⟩
          | succ g2 =>
            have hTn : T < n := by omega
            have t3 : decide ((T : Int) < (n : Int)) = true := decide_eq_true (by omega)
            have hTl : T < l.length := by rw [HN.out]; exact hTn
            have hcT := HC.out T hTl
            by_cases h32 : l[T] = 32
            · have t4 := byte_is h32
              have hkT2 : k < T := by
                rcases Nat.lt_or_ge k T with h | h
                · exact h
                · have e : T = k := by omega
                  subst e
                  exact absurd (by rw [List.getElem?_eq_getElem hTl, h32]) H32.out
              obtain ⟨s, hs⟩ : ∃ s, s = (l.drop k).take (T - k) := ⟨_, rfl⟩
              have HF := Lib.hid (show wordsL l = (W ++ [s]) ++ wordsOn [] (l.drop (T + 1)) by rw [hs]; exact words_end hkT2 hTl HT.out h32)
              have q1 := fun W => sl_lh (some ⟨b, off, none⟩) n c k T hkT (by omega) W
              have hsl : s.length = T - k := by rw [hs, List.length_take, List.length_drop, HN.out]; omega
              have hBs : Bs wr (ReplyT.partAt (some ⟨b, off, none⟩) c k) s := by
                have h1 := partAt_bs (c := c) HBW.out (by rw [HN.out]; exact hc) k T (by omega)
                rwa [← hs] at h1
              obtain ⟨P, hP⟩ : ∃ P, P = ReplyT.partAt (some ⟨b, off, none⟩) c k := ⟨_, rfl⟩
              rw [← hP] at q1 hBs
              have c1 := bs_string hBs (T - k) (c - k) hsl.symm
              obtain ⟨S, hS⟩ : ∃ S : ByteArray, S = ⟨s.toArray⟩ := ⟨_, rfl⟩
              have HS := Lib.hid (show S.data.toList = s by rw [hS])
              rw [← hS] at c1
              have HO1 := Lib.hid (HO.out.keep (below1 wr (.cells #[.string S] 9)))
              have HCl := Lib.hid (show (wr.alloc (.cells #[.string S] 9)).cell? ⟨wr.heap.size, 0, none⟩ = some (.string S) by simp [World.cell?_alloc_mark])
              have HWm := Lib.hid (show W.length ≤ 1048576 by have := HWl.out; omega)
              obtain ⟨x, hx⟩ : ∃ x, x = l[T] := ⟨_, rfl⟩
              rw [← hx] at hcT t4
              clear hs hsl hBs hP hS HT hx h32 hTl
              go_wp2_with (at_builtin; refine wpList_append_s (w0 := w) rfl (.tmp 29) (.tmp 35) rfl _ W rfl HO1.out (hb.alloc hbs _) wr.heap.size S _ 1 rfl HS.out HCl.out HWm.out ?_; intro v' w2 hown1 hb2)
              go_roundg g2
              case measure => omega
              case rel => exact ⟨T + 1, W ++ [s], by omega, by go_num, hb2, Lib.hid hown1, Lib.hid (by rw [List.length_append]; have := HWl.out; simp; omega), HF⟩
            · have t4 := byte_not h32
              have HF := Lib.hid (words_on hkT hTl HT.out h32)
              obtain ⟨x, hx⟩ : ∃ x, x = l[T] := ⟨_, rfl⟩
              rw [← hx] at hcT t4
              clear hx h32 hTl HT
              go_wp2_with fail
              go_roundg g2
              case measure => omega
              case rel => exact ⟨T + 1, by omega, by omega, rfl, rfl, by go_num, rfl, HF⟩

end Go.Proofs.YtadffjmpkeaikaaDoor.FrameM
