/-
  A row of words, as the document's own answers of layer 6 (package tipstaffref06) take it.
-/
import Derived.Test.YtadffjmpkeaikaaDoorRefHead
namespace Go.Proofs.YtadffjmpkeaikaaDoor.RefF
open Go.RowKit Kit BytesIn ReplyMath ReplyT NumMath NumL FrameMath FrameT
set_option linter.unusedVariables false
set_option maxRecDepth 100000

/-- Words that are taken, how far, and what comes behind. -/
def comb (ws : List (List UInt8)) (X : Nat) : Rq → Rq
  | .bad => .bad
  | .part => .part
  | .is us u => .is (ws ++ us) (X + u)
theorem row_start {l : List UInt8} {N j : Nat} (h : headL 42 1 32 l = .is N j) : rowL l = comb [] j (rowOf N (l.drop j)) := by
  unfold rowL
  rw [h]
  simp only
  cases rowOf N (l.drop j) <;> rfl
theorem row_bad {l : List UInt8} (h : headL 42 1 32 l = .bad) : rowL l = .bad := by unfold rowL; rw [h]
theorem row_part {l : List UInt8} (h : headL 42 1 32 l = .part) : rowL l = .part := by unfold rowL; rw [h]
theorem comb_zero (ws : List (List UInt8)) (X : Nat) (r : List UInt8) : comb ws X (rowOf 0 r) = .is ws X := by simp [comb, rowOf]
theorem comb_bad {ws : List (List UInt8)} {X m : Nat} {r : List UInt8} (h : headL 36 0 512 r = .bad) : comb ws X (rowOf (m + 1) r) = .bad := by rw [rowOf, h]; rfl
theorem comb_part {ws : List (List UInt8)} {X m : Nat} {r : List UInt8} (h : headL 36 0 512 r = .part) : comb ws X (rowOf (m + 1) r) = .part := by rw [rowOf, h]; rfl
theorem comb_wbad {ws : List (List UInt8)} {X m k t : Nat} {r : List UInt8} (h : headL 36 0 512 r = .is k t) (hw : wordAt k (r.drop t) = .bad) : comb ws X (rowOf (m + 1) r) = .bad := by rw [rowOf, h]; simp only; rw [hw]; rfl
theorem comb_wpart {ws : List (List UInt8)} {X m k t : Nat} {r : List UInt8} (h : headL 36 0 512 r = .is k t) (hw : wordAt k (r.drop t) = .part) : comb ws X (rowOf (m + 1) r) = .part := by rw [rowOf, h]; simp only; rw [hw]; rfl
theorem comb_word {ws w : List (List UInt8)} {X m k t u : Nat} {l : List UInt8} (h : headL 36 0 512 (l.drop X) = .is k t) (hw : wordAt k ((l.drop X).drop t) = .is w u) :
    comb ws X (rowOf (m + 1) (l.drop X)) = comb (ws ++ w) (X + t + u) (rowOf m (l.drop (X + t + u))) := by
  rw [rowOf, h]
  simp only
  rw [hw]
  simp only
  rw [List.drop_drop, show X + (t + u) = X + t + u by omega]
  cases rowOf m (l.drop (X + t + u)) with
  | bad => rfl
  | part => rfl
  | is us v =>
    simp only [comb]
    rw [List.append_assoc, show X + (t + u + v) = X + t + u + v by omega]
theorem two_at {l : List UInt8} {i : Nat} {x y : UInt8} (h : i + 1 < l.length) (hx : x = l[i]) (hy : y = l[i + 1]) : (l.drop i).take 2 = [x, y] := by
  rw [List.drop_eq_getElem_cons (by omega), List.drop_eq_getElem_cons h, hx, hy]
  rfl

set_option maxHeartbeats 4000000 in
theorem rrow (p : Option Addr) (l : List UInt8) (n c : Nat) (w : World) (hn : l.length = n) (hb : Bs w p l) (hc : n ≤ c) (hcm : c ≤ 9223372036854775807) (hz : n ≤ 1048576) :
    Calls Tryd.prog 27 #[.slice p n c] w (NextP (rowL l) w) := by
  have C0 : Calls Tryd.prog 37 #[.slice p n c, .int .i64 0, .int .u8 42, .int .i64 1, .int .i64 32] w (HeadP 0 (headL 42 1 32 l) w) := by
    have h := rhead p l n c 0 42 42 1 32 w hn hb hc hcm hz (Nat.zero_le _) rfl (by decide)
    rw [List.drop_zero] at h
    exact h
  have C0 := Lib.hid C0
  have HN := Lib.hid hn
  have HB := Lib.hid hb
  rcases hh : headL 42 1 32 l with _ | _ | ⟨N, j⟩
  · rw [hh] at C0
    have HX := Lib.hid (fun W hbw => next_bad (r := rowL l) (w := w) (w' := W) (row_bad hh) hbw)
    clear hb hn hh
    go_enter Tryd.func27, Tryd.ntmps27
    go_wp2_with fail
    refine (show Calls _ _ _ _ (fun e w' => e = .returned (.tuple #[.int .i64 0, .int .i64 (-2)]) ∧ Below w.heap.size w w') from C0.out).mono ?_
    rintro e w1 ⟨rfl, hb1⟩
    have hb1' := hb1.alloc hb1.size (.cells #[] 9)
    go_wp2_with fail
    go_loopw [6, 7, 8] (fun x v i wr => x = .int .i64 (-2) ∧ i = .int .i64 0 ∧ Below w.heap.size w wr) (fun _ _ _ _ => 0)
    case atStart => exact ⟨rfl, rfl, hb1'⟩
    case round =>
      obtain ⟨rfl, rfl, hbr⟩ := hrel
      go_wp2_with fail
      go_ret3
      exact HX.out _ hbr
  · rw [hh] at C0
    have HX := Lib.hid (fun W hbw => next_none (r := rowL l) (w := w) (w' := W) (row_part hh) hbw)
    clear hb hn hh
    go_enter Tryd.func27, Tryd.ntmps27
    go_wp2_with fail
    refine (show Calls _ _ _ _ (fun e w' => e = .returned (.tuple #[.int .i64 0, .int .i64 (-1)]) ∧ Below w.heap.size w w') from C0.out).mono ?_
    rintro e w1 ⟨rfl, hb1⟩
    have hb1' := hb1.alloc hb1.size (.cells #[] 9)
    go_wp2_with fail
    go_loopw [6, 7, 8] (fun x v i wr => x = .int .i64 (-1) ∧ i = .int .i64 0 ∧ Below w.heap.size w wr) (fun _ _ _ _ => 0)
    case atStart => exact ⟨rfl, rfl, hb1'⟩
    case round =>
      obtain ⟨rfl, rfl, hbr⟩ := hrel
      go_wp2_with fail
      go_ret3
      exact HX.out _ hbr
  · rw [hh] at C0
    obtain ⟨g1, g2, g3, g4, -⟩ := headL_is hh
    rw [hn] at g2
    have hN : N ≤ 32 := by omega
    have HS := Lib.hid (row_start hh)
    have C1 := Lib.hid (show Calls Tryd.prog 37 #[.slice p n c, .int .i64 0, .int .u8 42, .int .i64 1, .int .i64 32] w (fun e w' => e = .returned (.tuple #[.int .i64 (N : Int), .int .i64 (j : Int)]) ∧ Below w.heap.size w w') from by
      have h := C0.out
      have e : hdAt 0 (.is N j) = (j : Int) := by simp [hdAt]
      unfold HeadP at h
      rw [e] at h
      exact h)
    clear hb hn hh C0 g3 g4
    go_enter Tryd.func27, Tryd.ntmps27
    go_wp2_with fail
    refine C1.out.mono ?_
    rintro e w1 ⟨rfl, hb1⟩
    have HO0 := Lib.hid (show OwnS w.heap.size (w1.alloc (.cells #[] 9)) (.slice (some ⟨w1.heap.size, 0, none⟩) 0 0) [] from World.ownsRow_lit w1 #[] 0 hb1.size (by simp [maxLen]) rfl)
    have HB1 := Lib.hid (hb1.alloc hb1.size (.cells #[] 9))
    clear hb1
    go_wp2_with fail
    go_loopw [6, 7, 8] (fun x v i wr => ∃ (X k : Nat) (ws : List (List UInt8)), x = .int .i64 X ∧ i = .int .i64 k ∧ k ≤ N ∧ X ≤ n ∧ 3 ≤ X ∧ Hid (ws.length = k) ∧ Hid (rowL l = comb ws X (rowOf (N - k) (l.drop X))) ∧ Hid (OwnS w.heap.size wr v ws) ∧ Below w.heap.size w wr) (fun _ _ i _ => N - (intOf i).toNat)
    case atStart => exact ⟨j, 0, [], rfl, rfl, Nat.zero_le _, g2, g1, Lib.hid rfl, HS, HO0, HB1.out⟩
    case round =>
      obtain ⟨X, k, ws, rfl, rfl, hk, hX, hX3, HWl, HR, HO, hb⟩ := hrel
      have HBr := Lib.hid hb
      have hbs := hb.size
      by_cases hlt : k < N
      · obtain ⟨m, hm⟩ : ∃ m, N - k = m + 1 := ⟨N - k - 1, by omega⟩
        have HR2 := Lib.hid (show rowL l = comb ws X (rowOf (m + 1) (l.drop X)) by rw [← hm]; exact HR.out)
        have CH := Lib.hid (rhead p l n c X 36 36 0 512 wr HN.out (HB.out.keep hb) hc hcm hz hX rfl (by decide))
        have d1 : decide ((k : Int) < (N : Int)) = true := decide_eq_true (by omega)
        have hX0 : (0 : Int) < (X : Int) := by omega
        clear HR hb
        rcases hh : headL 36 0 512 (l.drop X) with _ | _ | ⟨K, t⟩
        · rw [hh] at CH
          have HX := Lib.hid (fun W hbw => next_bad (r := rowL l) (w := w) (w' := W) (by rw [HR2.out]; exact comb_bad hh) hbw)
          clear hh hm
          go_wp2_with fail
          refine (show Calls _ _ _ _ (fun e w' => e = .returned (.tuple #[.int .i64 0, .int .i64 (-2)]) ∧ Below wr.heap.size wr w') from CH.out).mono ?_
          rintro e w2 ⟨rfl, hb2⟩
          go_wp2_with fail
          go_ret3
          exact HX.out _ (HBr.out.trans (hb2.mono hbs))
        · rw [hh] at CH
          have HX := Lib.hid (fun W hbw => next_none (r := rowL l) (w := w) (w' := W) (by rw [HR2.out]; exact comb_part hh) hbw)
          clear hh hm
          go_wp2_with fail
          refine (show Calls _ _ _ _ (fun e w' => e = .returned (.tuple #[.int .i64 0, .int .i64 (-1)]) ∧ Below wr.heap.size wr w') from CH.out).mono ?_
          rintro e w2 ⟨rfl, hb2⟩
          go_wp2_with fail
          go_ret3
          exact HX.out _ (HBr.out.trans (hb2.mono hbs))
        · rw [hh] at CH
          obtain ⟨f1, f2, f3, f4, -⟩ := headL_is hh
          rw [List.length_drop, HN.out] at f2
          obtain ⟨Y, hY⟩ : ∃ Y, Y = X + t := ⟨_, rfl⟩
          have CH2 := Lib.hid (show Calls Tryd.prog 37 #[.slice p n c, .int .i64 (X : Int), .int .u8 36, .int .i64 0, .int .i64 512] wr (fun e w' => e = .returned (.tuple #[.int .i64 (K : Int), .int .i64 (Y : Int)]) ∧ Below wr.heap.size wr w') from by
            have h := CH.out
            have e : hdAt X (.is K t) = (Y : Int) := by simp only [hdAt]; omega
            unfold HeadP at h
            rw [e] at h
            exact h)
          have hK : K ≤ 512 := by omega
          have hYn : Y ≤ n := by omega
          have hY0 : 6 ≤ Y := by omega
          have hdd : (l.drop X).drop t = l.drop Y := by rw [List.drop_drop, hY]
          have hrl : (l.drop Y).length = n - Y := by rw [List.length_drop, HN.out]
          clear CH f1 f3 f4
          by_cases hsh : n - Y < K + 2
          · have hw : wordAt K ((l.drop X).drop t) = .part := by rw [hdd]; unfold wordAt; rw [if_pos (by omega)]
            have HX := Lib.hid (fun W hbw => next_none (r := rowL l) (w := w) (w' := W) (by rw [HR2.out]; exact comb_wpart hh hw) hbw)
            have d2 : (n : Int) - (Y : Int) < (K : Int) + 2 := by omega
            clear hh hm hw hdd hrl hY f2
            go_wp2_with fail
            refine CH2.out.mono ?_
            rintro e w2 ⟨rfl, hb2⟩
            go_wp2_with fail
            go_ret3
            exact HX.out _ (HBr.out.trans (hb2.mono hbs))
          · have d2 : ¬ ((n : Int) - (Y : Int) < (K : Int) + 2) := by omega
            have hl1 : Y + K + 1 < l.length := by rw [HN.out]; omega
            obtain ⟨b, off, rfl, hlt2, hcl⟩ := HB.out (by rw [HN.out]; omega)
            obtain ⟨x, hx⟩ : ∃ x, x = l[Y + K] := ⟨_, rfl⟩
            obtain ⟨y, hy⟩ : ∃ y, y = l[Y + K + 1] := ⟨_, rfl⟩
            have hc1 : ∀ W, Below w.heap.size w W → W.cell? ⟨b, off + (Y + K), none⟩ = some (.int .u8 (x.toNat : Int)) := fun W h => by rw [h.cell (p := ⟨b, off + (Y + K), none⟩) hlt2, hx]; exact hcl (Y + K) (by omega)
            have hc2 : ∀ W, Below w.heap.size w W → W.cell? ⟨b, off + (Y + K + 1), none⟩ = some (.int .u8 (y.toNat : Int)) := fun W h => by rw [h.cell (p := ⟨b, off + (Y + K + 1), none⟩) hlt2, hy]; exact hcl (Y + K + 1) hl1
            have htwo : ((l.drop Y).drop K).take 2 = [x, y] := by rw [List.drop_drop]; exact two_at hl1 hx hy
            have hwd : wordAt K ((l.drop X).drop t) = if [x, y] = [13, 10] then .is [(l.drop Y).take K] (K + 2) else .bad := by
              rw [hdd]
              unfold wordAt
              rw [if_neg (by omega), htwo]
            by_cases h13 : x = 13
            · have t1 := byte_beq 13 13 rfl h13
              by_cases h10 : y = 10
              · have t2 := byte_beq 10 10 rfl h10
                have hw : wordAt K ((l.drop X).drop t) = .is [(l.drop Y).take K] (K + 2) := by rw [hwd, if_pos (by rw [h13, h10])]
                have HR3 := Lib.hid (show rowL l = comb (ws ++ [(l.drop Y).take K]) (Y + K + 2) (rowOf (N - (k + 1)) (l.drop (Y + K + 2))) by
                  rw [HR2.out, comb_word hh hw, show X + t + (K + 2) = Y + K + 2 by omega, show m = N - (k + 1) by omega])
                obtain ⟨s, hs⟩ : ∃ s, s = (l.drop Y).take K := ⟨_, rfl⟩
                have hsl : s.length = K := by rw [hs, List.length_take]; omega
                obtain ⟨P, hP⟩ : ∃ P, P = ReplyT.partAt (some ⟨b, off, none⟩) c Y := ⟨_, rfl⟩
                have q1 : ∀ W, (Instr.slice 22 (.slice (some ⟨b, off, none⟩) n c) (some (.int .i64 (Y : Int))) (some (.int .i64 ((Y : Int) + (K : Int)))) none).run Tryd.prog W = .ok (.slice P K (c - Y)) W := fun W => by
                  have h := sl_lh (some ⟨b, off, none⟩) n c Y (Y + K) (by omega) (by omega) W
                  rw [show ((Y + K : Nat) : Int) = (Y : Int) + (K : Int) by omega, show Y + K - Y = K by omega, ← hP] at h
                  exact h
                have HBs := Lib.hid (fun W (hbw : Below w.heap.size w W) => (show Bs W P s by
                  have h := partAt_bs (c := c) (HB.out.keep hbw) (by rw [HN.out]; exact hc) Y (Y + K) (by omega)
                  rw [show Y + K - Y = K by omega, ← hs, ← hP] at h
                  exact h))
                rw [← hs] at HR3
                obtain ⟨S, hSd⟩ : ∃ S : ByteArray, S = ⟨s.toArray⟩ := ⟨_, rfl⟩
                have HSl := Lib.hid (show S.data.toList = s by rw [hSd])
                have HWb := Lib.hid (show ws.length ≤ 1048576 by have := HWl.out; omega)
                have HWn := Lib.hid (show (ws ++ [s]).length = k + 1 by rw [List.length_append, HWl.out]; rfl)
                clear hh hm hw hwd htwo hdd hrl hY f2 h13 h10 hx hy hcl hs hP hl1
                go_wp2_with fail
                refine CH2.out.mono ?_
                rintro e w2 ⟨rfl, hb2⟩
                have hbw := HBr.out.trans (hb2.mono hbs)
                have e1 := hc1 w2 hbw
                have e2 := hc2 w2 hbw
                have cv := bs_string (HBs.out w2 hbw) K (c - Y) hsl.symm
                rw [← hSd] at cv
                have HO1 := Lib.hid ((HO.out.keep hb2).keep (below1 w2 (.cells #[.string S] 9)))
                have HC := Lib.hid (show (w2.alloc (.cells #[.string S] 9)).cell? ⟨w2.heap.size, 0, none⟩ = some (.string S) by simp [World.cell?_alloc_mark])
                clear hc1 hc2 hSd hsl hb2
                go_wp2_with (at_builtin; refine wpList_append_s (w0 := w) rfl (.tmp 59) (.tmp 67) rfl u7 ws rfl HO1.out (hbw.alloc hbw.size _) w2.heap.size S s 1 rfl HSl.out HC.out HWb.out ?_; intro v' w3 hown1 hb3)
                go_roundw
                case rel => exact ⟨Y + K + 2, k + 1, ws ++ [s], by go_num, by go_num, by omega, by omega, by omega, HWn, HR3, Lib.hid hown1, hb3⟩
                case measure => simp [intOf]; omega
              · have t2 := byte_bne 10 10 rfl h10
                have hw : wordAt K ((l.drop X).drop t) = .bad := by rw [hwd, if_neg (by intro e; injection e with _ e; injection e with e _; exact h10 e)]
                have HX := Lib.hid (fun W hbw => next_bad (r := rowL l) (w := w) (w' := W) (by rw [HR2.out]; exact comb_wbad hh hw) hbw)
                clear hh hm hw hwd htwo hdd hrl hY f2 h13 h10 hx hy hcl hl1
                go_wp2_with fail
                refine CH2.out.mono ?_
                rintro e w2 ⟨rfl, hb2⟩
                have hbw := HBr.out.trans (hb2.mono hbs)
                have e1 := hc1 w2 hbw
                have e2 := hc2 w2 hbw
                clear hc1 hc2
                go_wp2_with fail
                go_ret3
                exact HX.out _ hbw
            · have t1 := byte_bne 13 13 rfl h13
              have hw : wordAt K ((l.drop X).drop t) = .bad := by rw [hwd, if_neg (by intro e; injection e with e _; exact h13 e)]
              have HX := Lib.hid (fun W hbw => next_bad (r := rowL l) (w := w) (w' := W) (by rw [HR2.out]; exact comb_wbad hh hw) hbw)
              clear hh hm hw hwd htwo hdd hrl hY f2 h13 hx hy hcl hl1
              go_wp2_with fail
              refine CH2.out.mono ?_
              rintro e w2 ⟨rfl, hb2⟩
              have hbw := HBr.out.trans (hb2.mono hbs)
              have e1 := hc1 w2 hbw
              clear hc1 hc2
              go_wp2_with fail
              go_ret3
              exact HX.out _ hbw
      · have hkN : k = N := by omega
        have HX := Lib.hid (next_is (r := rowL l) (w := w) (w' := wr) (x := (X : Int)) (by rw [HR.out, hkN, Nat.sub_self, comb_zero]) rfl (ownS_ans HO.out) hb)
        have d1 : decide ((k : Int) < (N : Int)) = false := decide_eq_false (by omega)
        have e1 : ((X : Int) == -1) = false := by rw [beq_eq_false_iff_ne]; omega
        have e2 : ((X : Int) == -2) = false := by rw [beq_eq_false_iff_ne]; omega
        clear hkN HR HO hb
        go_wp2_with fail
        go_ret3
        exact HX.out

end Go.Proofs.YtadffjmpkeaikaaDoor.RefF
