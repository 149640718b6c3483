/-
  The document's own answers of layer 9 (package tipstaffref09): a text put into texts that rise.
-/
import Derived.Test.YtbcjgkedlapmhaaRefVal0
namespace Go.Proofs.Ytbcjgkedlapmhaa.RefV
open Go.RowKit Kit StrT RowG BOrd ValT
open Go.Op (bytesLess)
set_option linter.unusedVariables false
set_option maxRecDepth 100000

theorem putS_len (s : List UInt8) (p : List (List UInt8) × Bool) (x : List UInt8) : (putS s p x).1.length ≤ p.1.length + 2 := by
  unfold putS
  simp only
  split <;> split <;> simp
theorem fold_take {α β : Type} (f : β → α → β) (b : β) (L : List α) (k : Nat) (h : k < L.length) : (L.take (k + 1)).foldl f b = f ((L.take k).foldl f b) L[k] := by
  rw [List.take_succ_eq_append_getElem h, List.foldl_append]
  rfl
/-- Where a text stands, and whether one was put: five ways. -/
theorem put_ways (s x : List UInt8) (b : Bool) (o : List (List UInt8)) : (b = true ∧ decide (x = s) = true ∧ putS s (o, b) x = (o, true)) ∨ (b = true ∧ decide (x = s) = false ∧ putS s (o, b) x = (o ++ [x], true)) ∨ (b = false ∧ bytesLess x s = true ∧ decide (x = s) = false ∧ putS s (o, b) x = (o ++ [x], false)) ∨
    (b = false ∧ bytesLess x s = false ∧ decide (x = s) = true ∧ putS s (o, b) x = (o ++ [s], true)) ∨ (b = false ∧ bytesLess x s = false ∧ decide (x = s) = false ∧ putS s (o, b) x = (o ++ [s] ++ [x], true)) := by
  unfold putS
  cases b with
  | true =>
    by_cases h : x = s
    · exact Or.inl ⟨rfl, decide_eq_true h, by simp [h]⟩
    · exact Or.inr (Or.inl ⟨rfl, decide_eq_false h, by simp [h]⟩)
  | false =>
    cases hl : bytesLess x s with
    | true =>
      have h := less_ne hl
      exact Or.inr (Or.inr (Or.inl ⟨rfl, rfl, decide_eq_false h, by simp [h]⟩))
    | false =>
      by_cases h : x = s
      · exact Or.inr (Or.inr (Or.inr (Or.inl ⟨rfl, rfl, decide_eq_true h, by simp [h]⟩)))
      · exact Or.inr (Or.inr (Or.inr (Or.inr ⟨rfl, rfl, decide_eq_false h, by simp [h]⟩)))
theorem bel_new (w : World) (o : Obj) : Below w.heap.size w (w.alloc o) := (Below.refl _ _).alloc (Nat.le_refl _) o

set_option maxHeartbeats 8000000 in
theorem rput (q : Option Addr) (L : List (List UInt8)) (n c : Nat) (S : ByteArray) (s : List UInt8) (w : World) (hn : L.length = n) (h : Ss w q L) (hz : n ≤ 500000) (hS : S.data.toList = s) :
    Calls Try.prog 43 #[.slice q n c, .string S] w (TextsA (putL L s) w) := by
  have HS := Lib.hid h
  have HN := Lib.hid hn
  have HSd := Lib.hid hS
  have HO := Lib.hid (ownR_new strE w.heap.size w w.heap.size rfl (Nat.le_refl _))
  have HB0 := Lib.hid (show Below w.heap.size w (w.alloc (.cells #[] strE.ty)) from bel_new w _)
  have HE := Lib.hid (fun k (h : k < L.length) => fold_take (putS s) ([], false) L k h)
  clear h hn hS
  go_enter Try.func43, Try.ntmps43
  go_wp2_with fail
  go_loopw [5, 6, 7] (fun v b i wr => ∃ (k : Nat) (o : List (List UInt8)) (B : Bool), k ≤ n ∧ i = .int .i64 k ∧ b = .bool B ∧ o.length ≤ 2 * k ∧ Hid ((L.take k).foldl (putS s) ([], false) = (o, B)) ∧ Hid (OwnR strE w.heap.size wr v o) ∧ Hid (Below w.heap.size w wr)) (fun _ _ i _ => n - (intOf i).toNat)
  case atStart => exact ⟨0, [], false, Nat.zero_le _, rfl, rfl, Nat.le_refl _, Lib.hid rfl, HO, HB0⟩
  case round =>
    obtain ⟨k, o, B, hk, rfl, rfl, hol, HF, HOw, HB⟩ := hrel
    by_cases hlt : k < n
    · have d1 : decide ((k : Int) < (n : Int)) = true := decide_eq_true (by omega)
      have hk0 : (0 : Int) ≤ (k : Int) := by omega
      have hkn : (k : Int) < (n : Int) := by omega
      have HNx := Lib.hid (HE.out k (by rw [HN.out]; exact hlt))
      obtain ⟨b, off, e1, hbl, u0⟩ := ss_at HS.out k (by rw [HN.out]; exact hlt)
      have HU := Lib.hid (fun W (hb : Below w.heap.size w W) => (hb.cell (p := ⟨b, off + k, none⟩) hbl).trans u0)
      replace u0 := HU.out wr HB.out
      subst e1
      obtain ⟨X, hX⟩ : ∃ X, X = L[k]'(by rw [HN.out]; exact hlt) := ⟨_, rfl⟩
      rw [← hX] at u0 HNx HU
      rw [HF.out] at HNx
      have hw := put_ways s X B o
      obtain ⟨T, hT⟩ : ∃ T : ByteArray, T = ⟨X.toArray⟩ := ⟨_, rfl⟩
      rw [← hT] at u0 HU
      have hE : (T.toList == S.toList) = decide (X = s) := by rw [hT, bytes_of, ByteArray.toList_eq, HSd.out]; rw [Bool.eq_iff_iff]; simp
      have hM : bytesLess T.toList S.toList = bytesLess X s := by rw [hT, bytes_of, ByteArray.toList_eq, HSd.out]
      have hE2 : (T.toList != S.toList) = !decide (X = s) := by rw [bne, hE]
      have HC1 := Lib.hid (fun (W : World) k hk => rec_new strE W k s #[.string S] (by rw [← HSd.out]; rfl) hk)
      have HC2 := Lib.hid (fun (W : World) k hk => rec_new strE W k X #[.string T] (by rw [hT]; rfl) hk)
      have HLn := Lib.hid (show o.length ≤ 1048576 ∧ (o ++ [s]).length ≤ 1048576 ∧ (o ++ [X]).length ≤ 2 * (k + 1) ∧ (o ++ [s]).length ≤ 2 * (k + 1) ∧ (o ++ [s] ++ [X]).length ≤ 2 * (k + 1) ∧ o.length ≤ 2 * (k + 1) by simp; omega)
      clear hT hX hbl HF
      rcases hw with ⟨rfl, t1, hp⟩ | ⟨rfl, t1, hp⟩ | ⟨rfl, t2, t1, hp⟩ | ⟨rfl, t2, t1, hp⟩ | ⟨rfl, t2, t1, hp⟩
      · rw [hp] at HNx
        rw [t1] at hE hE2
        clear hp t1
        go_wp2_with fail
        go_roundw
        case rel => exact ⟨k + 1, o, true, by omega, by go_num, rfl, HLn.out.2.2.2.2.2, HNx, HOw, HB⟩
        case measure => simp [intOf]; omega
      · rw [hp] at HNx
        rw [t1] at hE hE2
        clear hp t1
        have HO1 := Lib.hid (HOw.out.keep (bel_new wr (.cells #[.string T] strE.ty)))
        have HBa := Lib.hid (HB.out.alloc HB.out.size (.cells #[.string T] strE.ty))
        go_wp2_with (at_builtin; refine wpList_append_r strE (w0 := w) rfl (.tmp 35) (.tmp 40) rfl _ _ rfl HO1.out HBa.out wr.heap.size X 1 rfl (HC2.out wr wr.heap.size rfl) HLn.out.1 ?_; intro v' w3 hown1 hb3)
        go_roundw
        case rel => exact ⟨k + 1, o ++ [X], true, by omega, by go_num, rfl, HLn.out.2.2.1, HNx, Lib.hid hown1, Lib.hid hb3⟩
        case measure => simp [intOf]; omega
      · rw [hp] at HNx
        rw [t1] at hE hE2
        rw [t2] at hM
        clear hp t1 t2
        have HO1 := Lib.hid (HOw.out.keep (bel_new wr (.cells #[.string T] strE.ty)))
        have HBa := Lib.hid (HB.out.alloc HB.out.size (.cells #[.string T] strE.ty))
        go_wp2_with (at_builtin; refine wpList_append_r strE (w0 := w) rfl (.tmp 35) (.tmp 40) rfl _ _ rfl HO1.out HBa.out wr.heap.size X 1 rfl (HC2.out wr wr.heap.size rfl) HLn.out.1 ?_; intro v' w3 hown1 hb3)
        go_roundw
        case rel => exact ⟨k + 1, o ++ [X], false, by omega, by go_num, rfl, HLn.out.2.2.1, HNx, Lib.hid hown1, Lib.hid hb3⟩
        case measure => simp [intOf]; omega
      · rw [hp] at HNx
        rw [t1] at hE hE2
        rw [t2] at hM
        clear hp t1 t2
        have HO1 := Lib.hid (HOw.out.keep (bel_new wr (.cells #[.string S] strE.ty)))
        have HBa := Lib.hid (HB.out.alloc HB.out.size (.cells #[.string S] strE.ty))
        go_wp2_with (at_builtin; refine wpList_append_r strE (w0 := w) rfl (.tmp 25) (.tmp 27) rfl _ _ rfl HO1.out HBa.out wr.heap.size s 1 rfl (HC1.out wr wr.heap.size rfl) HLn.out.1 ?_; intro v' w3 hown1 hb3; have u3 := HU.out w3 hb3)
        go_roundw
        case rel => exact ⟨k + 1, o ++ [s], true, by omega, by go_num, rfl, HLn.out.2.2.2.1, HNx, Lib.hid hown1, Lib.hid hb3⟩
        case measure => simp [intOf]; omega
      · rw [hp] at HNx
        rw [t1] at hE hE2
        rw [t2] at hM
        clear hp t1 t2
        have HO1 := Lib.hid (HOw.out.keep (bel_new wr (.cells #[.string S] strE.ty)))
        have HBa := Lib.hid (HB.out.alloc HB.out.size (.cells #[.string S] strE.ty))
        go_wp2_with (first
          | (at_builtin; refine wpList_append_r strE (w0 := w) rfl (.tmp 25) (.tmp 27) rfl _ _ rfl HO1.out HBa.out wr.heap.size s 1 rfl (HC1.out wr wr.heap.size rfl) HLn.out.1 ?_; intro v' w3 hown1 hb3; have u3 := HU.out w3 hb3)
          | (at_builtin; refine wpList_append_r strE (w0 := w) rfl (.tmp 35) (.tmp 40) rfl _ _ rfl (hown1.keep (bel_new w3 (.cells #[.string T] strE.ty))) (hb3.alloc hb3.size (.cells #[.string T] strE.ty)) w3.heap.size X 1 rfl (HC2.out w3 w3.heap.size rfl) HLn.out.2.1 ?_; intro v4 w4 hown2 hb4))
        go_roundw
        case rel => exact ⟨k + 1, o ++ [s] ++ [X], true, by omega, by go_num, rfl, HLn.out.2.2.2.2.1, HNx, Lib.hid hown2, Lib.hid hb4⟩
        case measure => simp [intOf]; omega
    · have d1 : decide ((k : Int) < (n : Int)) = false := decide_eq_false (by omega)
      have HX := Lib.hid (show putL L s = putE s (o, B) by
        have h := HF.out
        rw [List.take_of_length_le (by rw [HN.out]; omega)] at h
        unfold putL
        rw [h])
      have hol2 : o.length ≤ 1048576 := by omega
      cases B with
      | true =>
        have HR := Lib.hid (show AnsR strE w.heap.size wr u5 (putL L s) by rw [HX.out]; exact HOw.out.ans)
        go_wp2_with fail
        go_ret
        exact ⟨_, rfl, HR.out, HB.out⟩
      | false =>
        have HO1 := Lib.hid (HOw.out.keep (bel_new wr (.cells #[.string S] strE.ty)))
        have HBa := Lib.hid (HB.out.alloc HB.out.size (.cells #[.string S] strE.ty))
        have HC1 := Lib.hid (rec_new strE wr wr.heap.size s #[.string S] (by rw [← HSd.out]; rfl) rfl)
        go_wp2_with (at_builtin; refine wpList_append_r strE (w0 := w) rfl (.tmp 44) (.tmp 46) rfl _ _ rfl HO1.out HBa.out wr.heap.size s 1 rfl HC1.out hol2 ?_; intro v' w3 hown1 hb3)
        have HR := Lib.hid (show AnsR strE w.heap.size w3 v' (putL L s) by rw [HX.out]; exact hown1.ans)
        go_wp2_with fail
        go_ret
        exact ⟨_, rfl, HR.out, hb3⟩

end Go.Proofs.Ytbcjgkedlapmhaa.RefV
