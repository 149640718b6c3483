/-
  The words of a line, and the request that a row begins with, as the document's own answers of layer 6 (package tipstaffref06) tell them.
-/
import Derived.Test.YtadffjmpkeaikaaDoorRefRow
namespace Go.Proofs.YtadffjmpkeaikaaDoor.RefF
open Go.RowKit Kit BytesIn ReplyMath ReplyT NumMath NumL FrameMath FrameT
set_option linter.unusedVariables false
set_option maxRecDepth 100000

theorem words_step {l cur : List UInt8} {i : Nat} (h : i < l.length) (hc : l[i] ≠ 32) : wordsOn cur (l.drop i) = wordsOn (cur ++ [l[i]]) (l.drop (i + 1)) := by
  rw [List.drop_eq_getElem_cons h, wordsOn, if_neg hc]
theorem words_blank {l cur : List UInt8} {i : Nat} (h : i < l.length) (hc : l[i] = 32) : wordsOn cur (l.drop i) = if cur = [] then wordsOn [] (l.drop (i + 1)) else cur :: wordsOn [] (l.drop (i + 1)) := by
  rw [List.drop_eq_getElem_cons h, wordsOn, if_pos hc]
theorem words_end {l cur : List UInt8} {i : Nat} (h : l.length ≤ i) : wordsOn cur (l.drop i) = if cur = [] then wordsOn [] (l.drop (i + 1)) else cur :: wordsOn [] (l.drop (i + 1)) := by
  rw [List.drop_eq_nil_of_le h, List.drop_eq_nil_of_le (by omega), wordsOn]
  split <;> simp [wordsOn]
theorem words_done (l : List UInt8) (i : Nat) (h : l.length ≤ i) : wordsOn [] (l.drop i) = [] := by rw [List.drop_eq_nil_of_le h]; simp [wordsOn]
theorem empty_iff (S : ByteArray) (l : List UInt8) (h : S.data.toList = l) : S.toList.isEmpty = l.isEmpty := by rw [ByteArray.toList_eq, h]

set_option maxHeartbeats 4000000 in
theorem rwords (p : Option Addr) (l : List UInt8) (n c : Nat) (w : World) (hn : l.length = n) (hb : Bs w p l) (hc : n ≤ c) (hcm : c ≤ 9223372036854775807) (hz : n ≤ 65536) :
    Calls Tryd.prog 28 #[.slice p n c] w fun e w' => ∃ v, e = .returned v ∧ OwnS w.heap.size w' v (wordsL l) ∧ Below w.heap.size w w' := by
  have HN := Lib.hid hn
  have HB := Lib.hid hb
  have HO0 := Lib.hid (OwnS.new w)
  have HB0 := Lib.hid (below1 w (.cells #[] 9))
  clear hb hn
  go_enter Tryd.func28, Tryd.ntmps28
  go_wp2_with fail
  go_loopw [3, 4, 5] (fun v x y wr => ∃ (i : Nat) (W : ByteArray) (ws : List (List UInt8)) (cur : List UInt8), y = .int .i64 i ∧ x = .string W ∧ i ≤ n + 1 ∧ W.size ≤ i ∧ Hid (W.data.toList = cur) ∧ Hid (i = n + 1 → cur = []) ∧ Hid (ws.length ≤ i) ∧ Hid (wordsL l = ws ++ wordsOn cur (l.drop i)) ∧ Hid (OwnS w.heap.size wr v ws) ∧ Below w.heap.size w wr) (fun _ _ y _ => n + 1 - (intOf y).toNat)
  case atStart => exact ⟨0, ⟨#[]⟩, [], [], rfl, rfl, Nat.zero_le _, Nat.le_refl _, Lib.hid rfl, Lib.hid (fun _ => rfl), Lib.hid (Nat.zero_le _), Lib.hid (by rw [List.drop_zero]; rfl), HO0, HB0.out⟩
  case round =>
    obtain ⟨i, W, ws, cur, rfl, rfl, hi, hW, HWd, HCur, HWl, HR, HO, hb⟩ := hrel
    have HBr := Lib.hid hb
    have hbs := hb.size
    have HWb := Lib.hid (show ws.length ≤ 1048576 by have := HWl.out; omega)
    by_cases hlast : i ≤ n
    · have d0 : decide ((i : Int) ≤ (n : Int)) = true := decide_eq_true (by omega)
      by_cases hw : i < n ∧ l[i]? ≠ some 32
      · obtain ⟨hlt, hne⟩ := hw
        have hil : i < l.length := by rw [HN.out]; exact hlt
        obtain ⟨b, off, rfl, hlt2, hcl⟩ := (HB.out.keep hb) (by omega)
        obtain ⟨x, hx⟩ : ∃ x, x = l[i] := ⟨_, rfl⟩
        have hcell : wr.cell? ⟨b, off + i, none⟩ = some (.int .u8 (x.toNat : Int)) := by rw [hx]; exact hcl i hil
        have hx32 : x ≠ 32 := by rw [List.getElem?_eq_getElem hil, ← hx] at hne; intro e; exact hne (by rw [e])
        have t1 := byte_bne 32 32 rfl hx32
        have d1 : decide ((i : Int) < (n : Int)) = true := decide_eq_true (by omega)
        obtain ⟨P, hP⟩ : ∃ P, P = ReplyT.partAt (some ⟨b, off, none⟩) c i := ⟨_, rfl⟩
        have q1 : ∀ V, (Instr.slice 22 (.slice (some ⟨b, off, none⟩) n c) (some (.int .i64 (i : Int))) (some (.int .i64 ((i : Int) + 1))) none).run Tryd.prog V = .ok (.slice P 1 (c - i)) V := fun V => by
          have h := sl_lh (some ⟨b, off, none⟩) n c i (i + 1) (by omega) (by omega) V
          rw [show ((i + 1 : Nat) : Int) = (i : Int) + 1 by omega, show i + 1 - i = 1 by omega, ← hP] at h
          exact h
        have hBs : Bs wr P [x] := by
          have h := partAt_bs (c := c) (HB.out.keep hb) (by rw [HN.out]; exact hc) i (i + 1) (by omega)
          rw [show i + 1 - i = 1 by omega, List.drop_eq_getElem_cons hil, ← hx, ← hP] at h
          exact h
        have cv := bs_string hBs 1 (c - i) rfl
        obtain ⟨T, hT⟩ : ∃ T : ByteArray, T = ⟨[x].toArray⟩ := ⟨_, rfl⟩
        have hTs : T.size = 1 := by rw [hT]; rfl
        rw [← hT] at cv
        have HWd2 := Lib.hid (show (W ++ T).data.toList = cur ++ [x] by simp [HWd.out, hT])
        have hWs : (W ++ T).size ≤ i + 1 := by rw [ByteArray.size_append, hTs]; omega
        have hov : ¬ (9223372036854775807 < W.size + T.size) := by rw [hTs]; omega
        have HR2 := Lib.hid (show wordsL l = ws ++ wordsOn (cur ++ [x]) (l.drop (i + 1)) by rw [HR.out, words_step hil (by rw [← hx]; exact hx32), ← hx])
        clear hx hcl hne hx32 hP hBs hT
        go_wp2_with fail
        go_roundw
        case rel => exact ⟨i + 1, W ++ T, ws, cur ++ [x], by go_num, rfl, by omega, hWs, HWd2, Lib.hid (fun h => by omega), Lib.hid (by have := HWl.out; omega), HR2, HO, HBr.out⟩
        case measure => simp [intOf]; omega
      · have HR2 := Lib.hid (show wordsL l = ws ++ (if cur = [] then wordsOn [] (l.drop (i + 1)) else cur :: wordsOn [] (l.drop (i + 1))) by
          rw [HR.out]
          congr 1
          rcases Nat.lt_or_ge i n with hlt | hge
          · have hil : i < l.length := by rw [HN.out]; exact hlt
            refine words_blank hil ?_
            have h2 : l[i]? = some 32 := Classical.byContradiction fun h => hw ⟨hlt, h⟩
            rw [List.getElem?_eq_getElem hil] at h2
            injection h2
          · exact words_end (by rw [HN.out]; exact hge))
        have HE := Lib.hid (empty_iff W cur HWd.out)
        have HNext : ∀ ws' : List (List UInt8), ws'.length ≤ i + 1 → wordsL l = ws' ++ wordsOn [] (l.drop (i + 1)) → ∀ v wx, OwnS w.heap.size wx v ws' → Below w.heap.size w wx → ∃ (i' : Nat) (W' : ByteArray) (us : List (List UInt8)) (cur' : List UInt8), Value.int .i64 ((i : Int) + 1) = .int .i64 i' ∧ Value.string ⟨#[]⟩ = .string W' ∧ i' ≤ n + 1 ∧ W'.size ≤ i' ∧ Hid (W'.data.toList = cur') ∧ Hid (i' = n + 1 → cur' = []) ∧ Hid (us.length ≤ i') ∧ Hid (wordsL l = us ++ wordsOn cur' (l.drop i')) ∧ Hid (OwnS w.heap.size wx v us) ∧ Below w.heap.size w wx := fun ws' h1 h2 v wx h3 h4 =>
          ⟨i + 1, ⟨#[]⟩, ws', [], by go_num, rfl, by omega, Nat.zero_le _, Lib.hid rfl, Lib.hid (fun _ => rfl), Lib.hid h1, Lib.hid h2, Lib.hid h3, h4⟩
        have HNx := Lib.hid HNext
        clear HNext
        have tests : (i < n → ∃ b off, p = some ⟨b, off, none⟩ ∧ wr.cell? ⟨b, off + i, none⟩ = some (.int .u8 32)) := fun hlt => by
          have hil : i < l.length := by rw [HN.out]; exact hlt
          obtain ⟨b, off, hp, hlt2, hcl⟩ := (HB.out.keep hb) (by omega)
          have h2 : l[i]? = some 32 := Classical.byContradiction fun h => hw ⟨hlt, h⟩
          rw [List.getElem?_eq_getElem hil] at h2
          injection h2 with h2
          refine ⟨b, off, hp, ?_⟩
          rw [hcl i hil, h2]
          rfl
        rcases Nat.lt_or_ge i n with hlt | hge
        · obtain ⟨b, off, rfl, hcell⟩ := tests hlt
          have d1 : decide ((i : Int) < (n : Int)) = true := decide_eq_true (by omega)
          clear tests hw hb
          by_cases hcur : cur = []
          · subst hcur
            have e1 : W.toList.isEmpty = true := HE.out
            have hfin := HNx.out ws (by have := HWl.out; omega) (by rw [HR2.out, if_pos rfl]) _ _ HO.out HBr.out
            have HF := Lib.hid hfin
            clear hfin
            go_wp2_with fail
            go_roundw
            case rel => exact HF.out
            case measure => simp [intOf]; omega
          · have e1 : W.toList.isEmpty = false := by rw [HE.out]; cases cur with | nil => exact absurd rfl hcur | cons a r => rfl
            have HRc := Lib.hid (show wordsL l = ws ++ [cur] ++ wordsOn [] (l.drop (i + 1)) by rw [HR2.out, if_neg hcur]; simp)
            have HO1 := Lib.hid (HO.out.keep (below1 wr (.cells #[.string W] 9)))
            have HC := Lib.hid (show (wr.alloc (.cells #[.string W] 9)).cell? ⟨wr.heap.size, 0, none⟩ = some (.string W) by simp [World.cell?_alloc_mark])
            have HBa := Lib.hid (HBr.out.alloc hbs (.cells #[.string W] 9))
            clear hcur
            go_wp2_with (at_builtin; refine wpList_append_s (w0 := w) rfl (.tmp 34) (.tmp 36) rfl u3 ws rfl HO1.out HBa.out wr.heap.size W cur 1 rfl HWd.out HC.out HWb.out ?_; intro v' w3 hown1 hb3)
            go_roundw
            case rel => exact HNx.out (ws ++ [cur]) (by have := HWl.out; rw [List.length_append]; simp; omega) HRc.out _ _ hown1 hb3
            case measure => simp [intOf]; omega
        · have d1 : decide ((i : Int) < (n : Int)) = false := decide_eq_false (by omega)
          clear tests hw hb
          by_cases hcur : cur = []
          · subst hcur
            have e1 : W.toList.isEmpty = true := HE.out
            have hfin := HNx.out ws (by have := HWl.out; omega) (by rw [HR2.out, if_pos rfl]) _ _ HO.out HBr.out
            have HF := Lib.hid hfin
            clear hfin
            go_wp2_with fail
            go_roundw
            case rel => exact HF.out
            case measure => simp [intOf]; omega
          · have e1 : W.toList.isEmpty = false := by rw [HE.out]; cases cur with | nil => exact absurd rfl hcur | cons a r => rfl
            have HRc := Lib.hid (show wordsL l = ws ++ [cur] ++ wordsOn [] (l.drop (i + 1)) by rw [HR2.out, if_neg hcur]; simp)
            have HO1 := Lib.hid (HO.out.keep (below1 wr (.cells #[.string W] 9)))
            have HC := Lib.hid (show (wr.alloc (.cells #[.string W] 9)).cell? ⟨wr.heap.size, 0, none⟩ = some (.string W) by simp [World.cell?_alloc_mark])
            have HBa := Lib.hid (HBr.out.alloc hbs (.cells #[.string W] 9))
            clear hcur
            go_wp2_with (at_builtin; refine wpList_append_s (w0 := w) rfl (.tmp 34) (.tmp 36) rfl u3 ws rfl HO1.out HBa.out wr.heap.size W cur 1 rfl HWd.out HC.out HWb.out ?_; intro v' w3 hown1 hb3)
            go_roundw
            case rel => exact HNx.out (ws ++ [cur]) (by have := HWl.out; rw [List.length_append]; simp; omega) HRc.out _ _ hown1 hb3
            case measure => simp [intOf]; omega
    · have d0 : decide ((i : Int) ≤ (n : Int)) = false := decide_eq_false (by omega)
      have HX := Lib.hid (show OwnS w.heap.size wr u3 (wordsL l) by
        have h := HR.out
        rw [HCur.out (by omega), words_done l i (by rw [HN.out]; omega), List.append_nil] at h
        rw [h]
        exact HO.out)
      clear hb
      go_wp2_with fail
      go_ret
      exact ⟨_, rfl, HX.out, HBr.out⟩

theorem head_at (l : List UInt8) (x : UInt8) (h : l[0]? = some x) : l.head? = some x := by rw [List.head?_eq_getElem?]; exact h
theorem next_row {l : List UInt8} (h : l[0]? = some 42) : nextL l = rowL l := by unfold nextL; rw [if_pos (head_at l 42 h)]
theorem next_lineL {l : List UInt8} (h : l[0]? ≠ some 42) : nextL l = lineL l := by
  unfold nextL
  rw [if_neg]
  rw [List.head?_eq_getElem?]
  exact h
theorem line_some {l : List UInt8} {i : Nat} (h : find10 600 l = some i) : lineL l = lineAt l i := by unfold lineL; rw [h]

set_option maxHeartbeats 4000000 in
theorem rnext (p : Option Addr) (l : List UInt8) (n c : Nat) (w : World) (hn : l.length = n) (hb : Bs w p l) (hc : n ≤ c) (hcm : c ≤ 9223372036854775807) (hz : n ≤ 65536) :
    Calls Tryd.prog 13 #[.slice p n c] w (NextP (nextL l) w) := by
  have HN := Lib.hid hn
  have HB := Lib.hid hb
  by_cases hrow : l[0]? = some 42
  · have hl0 : 0 < l.length := by
      rcases Nat.eq_zero_or_pos l.length with h | h
      · rw [List.getElem?_eq_none (by omega)] at hrow; cases hrow
      · exact h
    have C := Lib.hid ((rrow p l n c w hn hb hc hcm (by omega)).mono fun e w' h => NextP.of h (next_row hrow).symm)
    obtain ⟨b, off, rfl, hlt, hcl⟩ := hb hl0
    have hcell : w.cell? ⟨b, off, none⟩ = some (.int .u8 42) := by
      have h := hcl 0 hl0
      rw [List.getElem?_eq_getElem hl0] at hrow
      injection hrow with hrow
      rw [hrow] at h
      exact h
    have hn0 : 0 < n := by omega
    clear hb hn hrow hcl hl0
    go_enter Tryd.func13, Tryd.ntmps13
    go_wp2_with fail
    refine C.out.mono ?_
    rintro e w1 ⟨v, rfl, ha, hb1⟩
    go_wp2_with fail
    go_ret3
    exact ⟨v, rfl, ha, hb1⟩
  · have HNx := Lib.hid (next_lineL hrow)
    have CW := Lib.hid (fun (W : World) (hbw : Below w.heap.size w W) (m : Nat) (hm : m ≤ n) => (rwords (ReplyT.partAt p c 0) (l.take m) m c W (by rw [List.length_take, hn]; omega) (by
      have h := partAt_bs (c := c) (hb.keep hbw) (by rw [hn]; exact hc) 0 m (by omega)
      rwa [List.drop_zero, Nat.sub_zero] at h) (by omega) hcm (by omega)))
    have q1 := fun (m : Nat) (hm : m ≤ c) W => sl_h p n c m hm W
    obtain ⟨P, hP⟩ : ∃ P, P = ReplyT.partAt p c 0 := ⟨_, rfl⟩
    rw [← hP] at CW q1
    have HQ := Lib.hid q1
    clear hP q1
    -- behind the first test
    have HLoop : ∀ (i : Nat), i ≤ n → i ≤ 600 → (∀ j, j < i → l[j]? ≠ some 10) → ¬ (i < n ∧ i < 600) → nextL l = if 600 ≤ n then .bad else .part := fun i h1 h2 h3 h4 => by
      rw [HNx.out]
      unfold lineL
      have hf : find10 600 l = none := find10_no (fun j hj => by
        rcases Nat.lt_or_ge j i with h | h
        · exact h3 j h
        · rw [List.getElem?_eq_none (by omega)]; simp)
      rw [hf, hn]
    have HLp := Lib.hid HLoop
    have key : (n = 0 ∨ ∃ b off x, p = some ⟨b, off, none⟩ ∧ w.cell? ⟨b, off, none⟩ = some (.int .u8 ((x : UInt8).toNat : Int)) ∧ x ≠ 42 ∧ 0 < n) := by
      rcases Nat.eq_zero_or_pos n with h | h
      · exact Or.inl h
      · obtain ⟨b, off, hp, hlt, hcl⟩ := hb (by omega)
        refine Or.inr ⟨b, off, l[0], hp, hcl 0 (by omega), ?_, h⟩
        intro e
        exact hrow (by rw [List.getElem?_eq_getElem (by omega), e])
    clear HLoop hrow hb hn
    rcases key with h0 | ⟨b, off, x0, rfl, hcell0, hx0, hn0⟩
    · subst h0
      have HX := Lib.hid (next_none (r := nextL l) (w := w) (w' := w) (by rw [HLp.out 0 (Nat.le_refl _) (by decide) (fun j hj => absurd hj (by omega)) (by omega), if_neg (by decide)]) (Below.refl _ _))
      go_enter Tryd.func13, Tryd.ntmps13
      go_wp2_with fail
      go_loopw [5] (fun v wr => v = .int .i64 0 ∧ wr = w) (fun _ _ => 0)
      case atStart => exact ⟨rfl, rfl⟩
      case round =>
        obtain ⟨rfl, rfl⟩ := hrel
        go_wp2_with fail
        go_ret3
        exact HX.out
    · have t0 := byte_ne 42 42 rfl hx0
      clear hx0
      go_enter Tryd.func13, Tryd.ntmps13
      go_wp2_with fail
      clear t0 hcell0
      go_loopw [5] (fun v wr => ∃ i : Nat, v = .int .i64 i ∧ i ≤ n ∧ i ≤ 600 ∧ wr = w ∧ Hid (∀ j, j < i → l[j]? ≠ some 10)) (fun v _ => n - (intOf v).toNat)
      case atStart => exact ⟨0, rfl, Nat.zero_le _, by omega, rfl, Lib.hid (fun j hj => absurd hj (by omega))⟩
      case round =>
        obtain ⟨i, rfl, h1, h2, rfl, HNo⟩ := hrel
        by_cases hlt : i < n ∧ i < 600
        · obtain ⟨g1, g2⟩ := hlt
          have d1 : decide ((i : Int) < (n : Int)) = true := decide_eq_true (by omega)
          have d2 : decide ((i : Int) < 600) = true := decide_eq_true (by omega)
          have hil : i < l.length := by rw [HN.out]; exact g1
          obtain ⟨b', off', hp', hlt2, hcl⟩ := HB.out (by omega)
          injection hp' with hp'
          injection hp' with e1 e2
          subst e1 e2
          obtain ⟨x, hx⟩ : ∃ x, x = l[i] := ⟨_, rfl⟩
          have hcell : wr.cell? ⟨b, off + i, none⟩ = some (.int .u8 (x.toNat : Int)) := by rw [hx]; exact hcl i hil
          by_cases h10 : x = 10
          · have t1 := byte_beq 10 10 rfl h10
            have hf : find10 600 l = some i := find10_first g2 (by rw [List.getElem?_eq_getElem hil, ← hx, h10]) HNo.out
            have HL := Lib.hid (show nextL l = lineAt l i by rw [HNx.out, line_some hf])
            have fin : ∀ E, E ≤ n → endAt l i = E → ∀ xx : Int, xx = (i : Int) + 1 → ∀ v W, OwnS wr.heap.size W v (wordsL (l.take E)) → Below wr.heap.size wr W → 
                (32 < (wordsL (l.take E)).length → NextP (nextL l) wr (.returned (.tuple #[.slice none 0 0, .int .i64 0, .int .i64 10])) W) ∧ (¬ 32 < (wordsL (l.take E)).length → NextP (nextL l) wr (.returned (.tuple #[v, .int .i64 xx, .int .i64 0])) W) := fun E hE he xx hxx v W h3 h4 => by
              constructor
              · intro h
                refine next_bad ?_ h4
                rw [HL.out]
                unfold lineAt
                rw [he, if_pos h]
              · intro h
                refine next_is (ws := wordsL (l.take E)) (k := i + 1) ?_ (by omega) (ownS_ans h3) h4
                rw [HL.out]
                unfold lineAt
                rw [he, if_neg h]
            have Fin := Lib.hid fin
            clear fin hf h10
            have hend : (endAt l i = i ∧ (i = 0 ∨ ∃ i' y, i = i' + 1 ∧ wr.cell? ⟨b, off + i', none⟩ = some (.int .u8 ((y : UInt8).toNat : Int)) ∧ ((y.toNat : Int) == 13) = false)) ∨ (∃ i', i = i' + 1 ∧ endAt l i = i' ∧ wr.cell? ⟨b, off + i', none⟩ = some (.int .u8 13)) := by
              cases i with
              | zero => exact Or.inl ⟨by unfold endAt; rw [if_neg (by omega)], Or.inl rfl⟩
              | succ i' =>
                have hce := hcl i' (by omega)
                by_cases h13 : l[i'] = 13
                · refine Or.inr ⟨i', rfl, ?_, by rw [hce, h13]; rfl⟩
                  unfold endAt
                  rw [if_pos ⟨by omega, by rw [show i' + 1 - 1 = i' by omega, List.getElem?_eq_getElem (by omega), h13]⟩]
                  omega
                · refine Or.inl ⟨?_, Or.inr ⟨i', l[i'], rfl, hce, byte_ne 13 13 rfl h13⟩⟩
                  unfold endAt
                  rw [if_neg]
                  rintro ⟨-, h⟩
                  rw [show i' + 1 - 1 = i' by omega, List.getElem?_eq_getElem (by omega)] at h
                  injection h with h
                  exact h13 h
            clear hcl hx
            rcases hend with ⟨he, h0 | ⟨i', y, rfl, hcy, ty⟩⟩ | ⟨i', rfl, he, hcy⟩
            · subst h0
              have hcell1 : wr.cell? ⟨b, off, none⟩ = some (.int .u8 (x.toNat : Int)) := hcell
              clear hcell
              have CW1 := Lib.hid (CW.out wr (Below.refl _ _) 0 (by omega))
              have F1 := Lib.hid (Fin.out 0 (by omega) he 1 (by omega))
              have q1 : ∀ V, (Instr.slice 22 (.slice (some ⟨b, off, none⟩) n c) none (some (.int .i64 0)) none).run Tryd.prog V = .ok (.slice P 0 c) V := fun V => HQ.out 0 (by omega) V
              obtain ⟨U, hU⟩ : ∃ U, U = wordsL (l.take 0) := ⟨_, rfl⟩
              rw [← hU] at CW1 F1
              clear hU he
              go_wp2_with fail
              with_reducible refine (CW1.out).mono ?_
              rintro e w1 ⟨v, rfl, hO, hb1⟩
              have F2 := F1.out v w1 hO hb1
              obtain ⟨qq, cq, rfl, -⟩ := hO.ss
              obtain ⟨m, hm⟩ : ∃ m, m = U.length := ⟨_, rfl⟩
              rw [← hm] at F2 ⊢
              clear hO hb1 hm
              by_cases h32 : 32 < m
              · have HX := Lib.hid (F2.1 h32)
                have d5 : (32 : Int) < (m : Int) := by omega
                clear F2
                go_wp2_with fail
                go_ret3
                exact HX.out
              · have HX := Lib.hid (F2.2 h32)
                have d5 : ¬ ((32 : Int) < (m : Int)) := by omega
                clear F2
                go_wp2_with fail
                go_ret3
                exact HX.out
            · have hi1 : i' + 1 ≤ n := h1
              have CW1 := Lib.hid (CW.out wr (Below.refl _ _) (i' + 1) (by omega))
              have F1 := Lib.hid (Fin.out (i' + 1) (by omega) he ((i' : Int) + 1 + 1) (by omega))
              have q1 : ∀ V, (Instr.slice 22 (.slice (some ⟨b, off, none⟩) n c) none (some (.int .i64 ((i' : Int) + 1))) none).run Tryd.prog V = .ok (.slice P (i' + 1) c) V := fun V => HQ.out (i' + 1) (by omega) V
              obtain ⟨U, hU⟩ : ∃ U, U = wordsL (l.take (i' + 1)) := ⟨_, rfl⟩
              rw [← hU] at CW1 F1
              clear hU he
              go_wp2_with fail
              with_reducible refine (CW1.out).mono ?_
              rintro e w1 ⟨v, rfl, hO, hb1⟩
              have F2 := F1.out v w1 hO hb1
              obtain ⟨qq, cq, rfl, -⟩ := hO.ss
              obtain ⟨m, hm⟩ : ∃ m, m = U.length := ⟨_, rfl⟩
              rw [← hm] at F2 ⊢
              clear hO hb1 hm
              by_cases h32 : 32 < m
              · have HX := Lib.hid (F2.1 h32)
                have d5 : (32 : Int) < (m : Int) := by omega
                clear F2
                go_wp2_with fail
                go_ret3
                exact HX.out
              · have HX := Lib.hid (F2.2 h32)
                have d5 : ¬ ((32 : Int) < (m : Int)) := by omega
                clear F2
                go_wp2_with fail
                go_ret3
                exact HX.out
            · have hi1 : i' + 1 ≤ n := h1
              have CW1 := Lib.hid (CW.out wr (Below.refl _ _) i' (by omega))
              have F1 := Lib.hid (Fin.out i' (by omega) he ((i' : Int) + 1 + 1) (by omega))
              have q1 : ∀ V, (Instr.slice 22 (.slice (some ⟨b, off, none⟩) n c) none (some (.int .i64 (i' : Int))) none).run Tryd.prog V = .ok (.slice P i' c) V := fun V => HQ.out i' (by omega) V
              obtain ⟨U, hU⟩ : ∃ U, U = wordsL (l.take i') := ⟨_, rfl⟩
              rw [← hU] at CW1 F1
              clear hU he
              go_wp2_with fail
              with_reducible refine (CW1.out).mono ?_
              rintro e w1 ⟨v, rfl, hO, hb1⟩
              have F2 := F1.out v w1 hO hb1
              obtain ⟨qq, cq, rfl, -⟩ := hO.ss
              obtain ⟨m, hm⟩ : ∃ m, m = U.length := ⟨_, rfl⟩
              rw [← hm] at F2 ⊢
              clear hO hb1 hm
              by_cases h32 : 32 < m
              · have HX := Lib.hid (F2.1 h32)
                have d5 : (32 : Int) < (m : Int) := by omega
                clear F2
                go_wp2_with fail
                go_ret3
                exact HX.out
              · have HX := Lib.hid (F2.2 h32)
                have d5 : ¬ ((32 : Int) < (m : Int)) := by omega
                clear F2
                go_wp2_with fail
                go_ret3
                exact HX.out
          · have t1 := byte_bne 10 10 rfl h10
            have HNo2 := Lib.hid (show ∀ j, j < i + 1 → l[j]? ≠ some 10 from fun j hj => by
              rcases Nat.lt_or_ge j i with h | h
              · exact HNo.out j h
              · obtain rfl : j = i := by omega
                rw [List.getElem?_eq_getElem hil]
                intro e
                injection e with e
                exact h10 (hx.trans e))
            clear hcl hx h10
            go_wp2_with fail
            go_roundw
            case rel => exact ⟨i + 1, by go_num, by omega, by omega, (by trivial), HNo2⟩
            case measure => simp [intOf]; omega
        · have hL := HLp.out i h1 h2 HNo.out hlt
          by_cases h6 : 600 ≤ n
          · have HX := Lib.hid (next_bad (r := nextL l) (w := wr) (w' := wr) (by rw [hL, if_pos h6]) (Below.refl _ _))
            have d3 : (600 : Int) ≤ (n : Int) := by omega
            have e2 : 600 ≤ i := by omega
            clear hL hlt
            rcases Nat.lt_or_ge i n with g1 | g1
            · have d1 : decide ((i : Int) < (n : Int)) = true := decide_eq_true (by omega)
              have d2 : decide ((i : Int) < 600) = false := decide_eq_false (by omega)
              go_wp2_with fail
              go_ret3
              exact HX.out
            · have d1 : decide ((i : Int) < (n : Int)) = false := decide_eq_false (by omega)
              go_wp2_with fail
              go_ret3
              exact HX.out
          · have HX := Lib.hid (next_none (r := nextL l) (w := wr) (w' := wr) (by rw [hL, if_neg h6]) (Below.refl _ _))
            have d3 : ¬ ((600 : Int) ≤ (n : Int)) := by omega
            have g1 : n ≤ i := by omega
            have d1 : decide ((i : Int) < (n : Int)) = false := decide_eq_false (by omega)
            clear hL hlt h6
            go_wp2_with fail
            go_ret3
            exact HX.out

end Go.Proofs.YtadffjmpkeaikaaDoor.RefF
