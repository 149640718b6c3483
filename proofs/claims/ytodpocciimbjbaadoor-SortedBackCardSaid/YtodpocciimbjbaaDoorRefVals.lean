/-
  The document's own answers of layer 9 (package tipstaffref09): rows with one more, and values that are made to fit.
-/
import Derived.Test.YtodpocciimbjbaaDoorValRowz
import Derived.Test.YtodpocciimbjbaaDoorRefVal3
import Derived.Deep.RegionLaw
import Derived.Deep.DeepCutAuto
import Derived.SliceStrings
import Derived.Laws.CopyOwn
import Derived.Lib.SlBytesConst
namespace Go.Proofs.YtodpocciimbjbaaDoor.RefV
open Go.RowKit Kit StrT RowG BOrd ValT
open Go.Op (bytesLess)
set_option linter.unusedVariables false
set_option maxRecDepth 100000

theorem putS_len (s : List UInt8) (p : List (List UInt8) × Bool) (x : List UInt8) : (putS s p x).1.length ≤ p.1.length + 2 := by
  unfold putS
  simp only
  split <;> split <;> simp
theorem fold_take {α β : Type} (f : β → α → β) (b : β) (L : List α) (k : Nat) (h : k < L.length) : (L.take (k + 1)).foldl f b = f ((L.take k).foldl f b) L[k] := by
  rw [List.take_succ_eq_append_getElem h, List.foldl_append]
  rfl
/-- Where a text stands, and whether one was put: five ways. -/
theorem put_ways (s x : List UInt8) (b : Bool) (o : List (List UInt8)) : (b = true ∧ decide (x = s) = true ∧ putS s (o, b) x = (o, true)) ∨ (b = true ∧ decide (x = s) = false ∧ putS s (o, b) x = (o ++ [x], true)) ∨ (b = false ∧ bytesLess x s = true ∧ decide (x = s) = false ∧ putS s (o, b) x = (o ++ [x], false)) ∨
    (b = false ∧ bytesLess x s = false ∧ decide (x = s) = true ∧ putS s (o, b) x = (o ++ [s], true)) ∨ (b = false ∧ bytesLess x s = false ∧ decide (x = s) = false ∧ putS s (o, b) x = (o ++ [s] ++ [x], true)) := by
  unfold putS
  cases b with
  | true =>
    by_cases h : x = s
    · exact Or.inl ⟨rfl, decide_eq_true h, by simp [h]⟩
    · exact Or.inr (Or.inl ⟨rfl, decide_eq_false h, by simp [h]⟩)
  | false =>
    cases hl : bytesLess x s with
    | true =>
      have h := less_ne hl
      exact Or.inr (Or.inr (Or.inl ⟨rfl, rfl, decide_eq_false h, by simp [h]⟩))
    | false =>
      by_cases h : x = s
      · exact Or.inr (Or.inr (Or.inr (Or.inl ⟨rfl, rfl, decide_eq_true h, by simp [h]⟩)))
      · exact Or.inr (Or.inr (Or.inr (Or.inr ⟨rfl, rfl, decide_eq_false h, by simp [h]⟩)))
theorem bel_new (w : World) (o : Obj) : Below w.heap.size w (w.alloc o) := (Below.refl _ _).alloc (Nat.le_refl _) o

set_option maxHeartbeats 8000000 in
theorem rput (q : Option Addr) (L : List (List UInt8)) (n c : Nat) (S : ByteArray) (s : List UInt8) (w : World) (hn : L.length = n) (h : Ss w q L) (hz : n ≤ 500000) (hS : S.data.toList = s) :
    Calls Tryd.prog 19 #[.slice q n c, .string S] w (TextsA (putL L s) w) := by
  have HS := Lib.hid h
  have HN := Lib.hid hn
  have HSd := Lib.hid hS
  have HO := Lib.hid (ownR_new strE w.heap.size w w.heap.size rfl (Nat.le_refl _))
  have HB0 := Lib.hid (show Below w.heap.size w (w.alloc (.cells #[] strE.ty)) from bel_new w _)
  have HE := Lib.hid (fun k (h : k < L.length) => fold_take (putS s) ([], false) L k h)
  clear h hn hS
  go_enter Tryd.func19, Tryd.ntmps19
  go_wp2_with fail
  go_loopw [5, 6, 7] (fun v b i wr => ∃ (k : Nat) (o : List (List UInt8)) (B : Bool), k ≤ n ∧ i = .int .i64 k ∧ b = .bool B ∧ o.length ≤ 2 * k ∧ Hid ((L.take k).foldl (putS s) ([], false) = (o, B)) ∧ Hid (OwnR strE w.heap.size wr v o) ∧ Hid (Below w.heap.size w wr)) (fun _ _ i _ => n - (intOf i).toNat)
  case atStart => exact ⟨0, [], false, Nat.zero_le _, rfl, rfl, Nat.le_refl _, Lib.hid rfl, HO, HB0⟩
  case round =>
    obtain ⟨k, o, B, hk, rfl, rfl, hol, HF, HOw, HB⟩ := hrel
    by_cases hlt : k < n
    · have d1 : decide ((k : Int) < (n : Int)) = true := decide_eq_true (by omega)
      have hk0 : (0 : Int) ≤ (k : Int) := by omega
      have hkn : (k : Int) < (n : Int) := by omega
      have HNx := Lib.hid (HE.out k (by rw [HN.out]; exact hlt))
      obtain ⟨b, off, e1, hbl, u0⟩ := ss_at HS.out k (by rw [HN.out]; exact hlt)
      have HU := Lib.hid (fun W (hb : Below w.heap.size w W) => (hb.cell (p := ⟨b, off + k, none⟩) hbl).trans u0)
      replace u0 := HU.out wr HB.out
      subst e1
      obtain ⟨X, hX⟩ : ∃ X, X = L[k]'(by rw [HN.out]; exact hlt) := ⟨_, rfl⟩
      rw [← hX] at u0 HNx HU
      rw [HF.out] at HNx
      have hw := put_ways s X B o
      obtain ⟨T, hT⟩ : ∃ T : ByteArray, T = ⟨X.toArray⟩ := ⟨_, rfl⟩
      rw [← hT] at u0 HU
      have hE : (T.toList == S.toList) = decide (X = s) := by rw [hT, bytes_of, ByteArray.toList_eq, HSd.out]; rw [Bool.eq_iff_iff]; simp
      have hM : bytesLess T.toList S.toList = bytesLess X s := by rw [hT, bytes_of, ByteArray.toList_eq, HSd.out]
      have hE2 : (T.toList != S.toList) = !decide (X = s) := by rw [bne, hE]
      have HC1 := Lib.hid (fun (W : World) k hk => rec_new strE W k s #[.string S] (by rw [← HSd.out]; rfl) hk)
      have HC2 := Lib.hid (fun (W : World) k hk => rec_new strE W k X #[.string T] (by rw [hT]; rfl) hk)
      have HLn := Lib.hid (show o.length ≤ 1048576 ∧ (o ++ [s]).length ≤ 1048576 ∧ (o ++ [X]).length ≤ 2 * (k + 1) ∧ (o ++ [s]).length ≤ 2 * (k + 1) ∧ (o ++ [s] ++ [X]).length ≤ 2 * (k + 1) ∧ o.length ≤ 2 * (k + 1) by simp; omega)
      clear hT hX hbl HF
      rcases hw with ⟨rfl, t1, hp⟩ | ⟨rfl, t1, hp⟩ | ⟨rfl, t2, t1, hp⟩ | ⟨rfl, t2, t1, hp⟩ | ⟨rfl, t2, t1, hp⟩
      · rw [hp] at HNx
        rw [t1] at hE hE2
        clear hp t1
        go_wp2_with fail
        go_roundw
        case rel => exact ⟨k + 1, o, true, by omega, by go_num, rfl, HLn.out.2.2.2.2.2, HNx, HOw, HB⟩
        case measure => simp [intOf]; omega
      · rw [hp] at HNx
        rw [t1] at hE hE2
        clear hp t1
        have HO1 := Lib.hid (HOw.out.keep (bel_new wr (.cells #[.string T] strE.ty)))
        have HBa := Lib.hid (HB.out.alloc HB.out.size (.cells #[.string T] strE.ty))
        go_wp2_with (at_builtin; refine wpList_append_r strE (w0 := w) rfl (.tmp 35) (.tmp 40) rfl _ _ rfl HO1.out HBa.out wr.heap.size X 1 rfl (HC2.out wr wr.heap.size rfl) HLn.out.1 ?_; intro v' w3 hown1 hb3)
        go_roundw
        case rel => exact ⟨k + 1, o ++ [X], true, by omega, by go_num, rfl, HLn.out.2.2.1, HNx, Lib.hid hown1, Lib.hid hb3⟩
        case measure => simp [intOf]; omega
      · rw [hp] at HNx
        rw [t1] at hE hE2
        rw [t2] at hM
        clear hp t1 t2
        have HO1 := Lib.hid (HOw.out.keep (bel_new wr (.cells #[.string T] strE.ty)))
        have HBa := Lib.hid (HB.out.alloc HB.out.size (.cells #[.string T] strE.ty))
        go_wp2_with (at_builtin; refine wpList_append_r strE (w0 := w) rfl (.tmp 35) (.tmp 40) rfl _ _ rfl HO1.out HBa.out wr.heap.size X 1 rfl (HC2.out wr wr.heap.size rfl) HLn.out.1 ?_; intro v' w3 hown1 hb3)
        go_roundw
        case rel => exact ⟨k + 1, o ++ [X], false, by omega, by go_num, rfl, HLn.out.2.2.1, HNx, Lib.hid hown1, Lib.hid hb3⟩
        case measure => simp [intOf]; omega
      · rw [hp] at HNx
        rw [t1] at hE hE2
        rw [t2] at hM
        clear hp t1 t2
        have HO1 := Lib.hid (HOw.out.keep (bel_new wr (.cells #[.string S] strE.ty)))
        have HBa := Lib.hid (HB.out.alloc HB.out.size (.cells #[.string S] strE.ty))
        go_wp2_with (at_builtin; refine wpList_append_r strE (w0 := w) rfl (.tmp 25) (.tmp 27) rfl _ _ rfl HO1.out HBa.out wr.heap.size s 1 rfl (HC1.out wr wr.heap.size rfl) HLn.out.1 ?_; intro v' w3 hown1 hb3; have u3 := HU.out w3 hb3)
        go_roundw
        case rel => exact ⟨k + 1, o ++ [s], true, by omega, by go_num, rfl, HLn.out.2.2.2.1, HNx, Lib.hid hown1, Lib.hid hb3⟩
        case measure => simp [intOf]; omega
      · rw [hp] at HNx
        rw [t1] at hE hE2
        rw [t2] at hM
        clear hp t1 t2
        have HO1 := Lib.hid (HOw.out.keep (bel_new wr (.cells #[.string S] strE.ty)))
        have HBa := Lib.hid (HB.out.alloc HB.out.size (.cells #[.string S] strE.ty))
        go_wp2_with (first
          | (at_builtin; refine wpList_append_r strE (w0 := w) rfl (.tmp 25) (.tmp 27) rfl _ _ rfl HO1.out HBa.out wr.heap.size s 1 rfl (HC1.out wr wr.heap.size rfl) HLn.out.1 ?_; intro v' w3 hown1 hb3; have u3 := HU.out w3 hb3)
          | (at_builtin; refine wpList_append_r strE (w0 := w) rfl (.tmp 35) (.tmp 40) rfl _ _ rfl (hown1.keep (bel_new w3 (.cells #[.string T] strE.ty))) (hb3.alloc hb3.size (.cells #[.string T] strE.ty)) w3.heap.size X 1 rfl (HC2.out w3 w3.heap.size rfl) HLn.out.2.1 ?_; intro v4 w4 hown2 hb4))
        go_roundw
        case rel => exact ⟨k + 1, o ++ [s] ++ [X], true, by omega, by go_num, rfl, HLn.out.2.2.2.2.1, HNx, Lib.hid hown2, Lib.hid hb4⟩
        case measure => simp [intOf]; omega
    · have d1 : decide ((k : Int) < (n : Int)) = false := decide_eq_false (by omega)
      have HX := Lib.hid (show putL L s = putE s (o, B) by
        have h := HF.out
        rw [List.take_of_length_le (by rw [HN.out]; omega)] at h
        unfold putL
        rw [h])
      have hol2 : o.length ≤ 1048576 := by omega
      cases B with
      | true =>
        have HR := Lib.hid (show AnsR strE w.heap.size wr u5 (putL L s) by rw [HX.out]; exact HOw.out.ans)
        go_wp2_with fail
        go_ret
        exact ⟨_, rfl, HR.out, HB.out⟩
      | false =>
        have HO1 := Lib.hid (HOw.out.keep (bel_new wr (.cells #[.string S] strE.ty)))
        have HBa := Lib.hid (HB.out.alloc HB.out.size (.cells #[.string S] strE.ty))
        have HC1 := Lib.hid (rec_new strE wr wr.heap.size s #[.string S] (by rw [← HSd.out]; rfl) rfl)
        go_wp2_with (at_builtin; refine wpList_append_r strE (w0 := w) rfl (.tmp 44) (.tmp 46) rfl _ _ rfl HO1.out HBa.out wr.heap.size s 1 rfl HC1.out hol2 ?_; intro v' w3 hown1 hb3)
        have HR := Lib.hid (show AnsR strE w.heap.size w3 v' (putL L s) by rw [HX.out]; exact hown1.ans)
        go_wp2_with fail
        go_ret
        exact ⟨_, rfl, HR.out, hb3⟩

end Go.Proofs.YtodpocciimbjbaaDoor.RefV
namespace Go.Proofs.YtodpocciimbjbaaDoor.RefV
open Go.RowKit Kit StrT RowG BOrd ValT
open Go.Op (bytesLess)
set_option linter.unusedVariables false
set_option maxRecDepth 100000

def PairsA (L : List Pr) (w : World) (e : Ending) (w' : World) : Prop := ∃ v, e = .returned v ∧ AnsR prE w.heap.size w' v L ∧ Below w.heap.size w w'
theorem putP_ways (s x : Pr) (b : Bool) (o : List Pr) : (b = true ∧ decide (x.name = s.name) = true ∧ putPS s (o, b) x = (o, true)) ∨ (b = true ∧ decide (x.name = s.name) = false ∧ putPS s (o, b) x = (o ++ [x], true)) ∨ (b = false ∧ bytesLess x.name s.name = true ∧ decide (x.name = s.name) = false ∧ putPS s (o, b) x = (o ++ [x], false)) ∨
    (b = false ∧ bytesLess x.name s.name = false ∧ decide (x.name = s.name) = true ∧ putPS s (o, b) x = (o ++ [s], true)) ∨ (b = false ∧ bytesLess x.name s.name = false ∧ decide (x.name = s.name) = false ∧ putPS s (o, b) x = (o ++ [s] ++ [x], true)) := by
  unfold putPS
  simp only
  cases b with
  | true =>
    by_cases h : x.name = s.name
    · exact Or.inl ⟨rfl, decide_eq_true h, by rw [if_pos h, if_neg (by simp)]⟩
    · exact Or.inr (Or.inl ⟨rfl, decide_eq_false h, by rw [if_neg h, if_neg (by simp)]⟩)
  | false =>
    cases hl : bytesLess x.name s.name with
    | true =>
      have h := less_ne hl
      exact Or.inr (Or.inr (Or.inl ⟨rfl, rfl, decide_eq_false h, by rw [if_neg h, if_neg (by simp)]⟩))
    | false =>
      by_cases h : x.name = s.name
      · exact Or.inr (Or.inr (Or.inr (Or.inl ⟨rfl, rfl, decide_eq_true h, by rw [if_pos h, if_pos ⟨rfl, rfl⟩]⟩)))
      · exact Or.inr (Or.inr (Or.inr (Or.inr ⟨rfl, rfl, decide_eq_false h, by rw [if_neg h, if_pos ⟨rfl, rfl⟩]⟩)))
/-- A record in a block of its own. -/
structure PCells (w : World) (g : Nat) (ty : TypeId) (x0 x1 : Value) : Prop where
  hp : w.heap[g]? = some (.cells #[x0, x1] ty (0, 0))
  c0 : w.cell? ⟨g, 0, none⟩ = some x0
  c1 : w.cell? ⟨g, 1, none⟩ = some x1
theorem PCells.of {w : World} {g : Nat} {ty : TypeId} {x0 x1 : Value} (hp : w.heap[g]? = some (.cells #[x0, x1] ty (0, 0))) : PCells w g ty x0 x1 := by
  refine ⟨hp, ?_, ?_⟩ <;> (rw [cell_of_row _ _ _ _ ty _ hp]; rfl)
theorem PCells.keep {w w' : World} {g : Nat} {ty : TypeId} {x0 x1 : Value} (h : PCells w g ty x0 x1) (hb : Below w.heap.size w w') : PCells w' g ty x0 x1 :=
  PCells.of (by rw [hb.block g (Array.getElem?_eq_some_iff.1 h.hp).1]; exact h.hp)
theorem pair_sz : (Tryd.prog.info? 53).map (·.size) = some 2 := by kernel_rfl
theorem mark_sz : (Tryd.prog.info? 39).map (·.size) = some 2 := by kernel_rfl

set_option maxHeartbeats 8000000 in
theorem rputp (q : Option Addr) (L : List Pr) (n c : Nat) (S S2 : ByteArray) (s : Pr) (w : World) (hn : L.length = n) (h : Rs prE w q L) (hz : n ≤ 500000) (hS : S.data.toList = s.name) (hS2 : S2.data.toList = s.val) :
    Calls Tryd.prog 21 #[.slice q n c, .agg #[.string S, .string S2]] w (PairsA (putP L s) w) := by
  have HW := Lib.hid (show Below w.heap.size w (w.alloc (.cells #[.string S, .string S2] 53)) from bel_new w _)
  have HS := Lib.hid (h.keep HW.out)
  have HN := Lib.hid hn
  have HSd := Lib.hid hS
  have HSe := Lib.hid (show prE.enc s = [.string S, .string S2] by
    show [Value.string ⟨s.name.toArray⟩, Value.string ⟨s.val.toArray⟩] = _
    rw [← hS, ← hS2])
  have HP := Lib.hid (PCells.of (show (w.alloc (.cells #[.string S, .string S2] 53)).heap[w.heap.size]? = some (.cells #[.string S, .string S2] 53 (0, 0)) from heap_alloc_last w _))
  have HO := Lib.hid (ownR_new prE (w.alloc (.cells #[.string S, .string S2] 53)).heap.size (w.alloc (.cells #[.string S, .string S2] 53)) (w.heap.size + 1) (by simp) (Nat.le_refl _))
  have HB0 := Lib.hid (show Below (w.alloc (.cells #[.string S, .string S2] 53)).heap.size (w.alloc (.cells #[.string S, .string S2] 53)) ((w.alloc (.cells #[.string S, .string S2] 53)).alloc (.cells #[] prE.ty)) from bel_new _ _)
  have HE := Lib.hid (fun k (h : k < L.length) => fold_take (putPS s) ([], false) L k h)
  have HWs := Lib.hid (show (w.alloc (.cells #[.string S, .string S2] 53)).heap.size = w.heap.size + 1 by simp)
  clear h hn hS hS2
  go_enter Tryd.func21, Tryd.ntmps21
  go_wp2_with fail
  generalize w.alloc (.cells #[.string S, .string S2] 53) = w1 at HW HS HP HO HB0 HWs ⊢
  go_loopw [5, 6, 7] (fun v b i wr => ∃ (k : Nat) (o : List Pr) (B : Bool), k ≤ n ∧ i = .int .i64 k ∧ b = .bool B ∧ o.length ≤ 2 * k ∧ Hid ((L.take k).foldl (putPS s) ([], false) = (o, B)) ∧ Hid (OwnR prE w1.heap.size wr v o) ∧ Hid (Below w1.heap.size w1 wr)) (fun _ _ i _ => n - (intOf i).toNat)
  case atStart => exact ⟨0, [], false, Nat.zero_le _, rfl, rfl, Nat.le_refl _, Lib.hid rfl, HO, HB0⟩
  case round =>
    obtain ⟨k, o, B, hk, rfl, rfl, hol, HF, HOw, HB⟩ := hrel
    by_cases hlt : k < n
    · have d1 : decide ((k : Int) < (n : Int)) = true := decide_eq_true (by omega)
      have hk0 : (0 : Int) ≤ (k : Int) := by omega
      have hkn : (k : Int) < (n : Int) := by omega
      have HNx := Lib.hid (HE.out k (by rw [HN.out]; exact hlt))
      obtain ⟨b, off, e1, hbl, u0, u1⟩ := pair_cells HS.out k (by rw [HN.out]; exact hlt)
      obtain ⟨X, hX⟩ : ∃ X, X = L[k]'(by rw [HN.out]; exact hlt) := ⟨_, rfl⟩
      rw [← hX] at u0 u1 HNx
      rw [HF.out] at HNx
      have hw := putP_ways s X B o
      obtain ⟨xn, xv⟩ := X
      simp only at u0 u1 hw
      obtain ⟨T, hT⟩ : ∃ T : ByteArray, T = ⟨xn.toArray⟩ := ⟨_, rfl⟩
      obtain ⟨T2, hT2⟩ : ∃ T : ByteArray, T = ⟨xv.toArray⟩ := ⟨_, rfl⟩
      rw [← hT] at u0
      rw [← hT2] at u1
      have HU := Lib.hid (fun W (hb : Below w1.heap.size w1 W) => (⟨(hb.cell (p := ⟨b, off + k * 2, none⟩) hbl).trans u0, (hb.cell (p := ⟨b, off + k * 2 + 1, none⟩) hbl).trans u1, (HP.out.keep hb).c0, (HP.out.keep hb).c1, (HP.out.keep hb).hp⟩ :
        W.cell? ⟨b, off + k * 2, none⟩ = some (.string T) ∧ W.cell? ⟨b, off + k * 2 + 1, none⟩ = some (.string T2) ∧ W.cell? ⟨w.heap.size, 0, none⟩ = some (.string S) ∧ W.cell? ⟨w.heap.size, 1, none⟩ = some (.string S2) ∧ W.heap[w.heap.size]? = some (.cells #[.string S, .string S2] 53 (0, 0))))
      subst e1
      have hE : (T.toList == S.toList) = decide (xn = s.name) := by rw [hT, bytes_of, ByteArray.toList_eq, HSd.out]; rw [Bool.eq_iff_iff]; simp
      have hM : bytesLess T.toList S.toList = bytesLess xn s.name := by rw [hT, bytes_of, ByteArray.toList_eq, HSd.out]
      have hE2 : (T.toList != S.toList) = !decide (xn = s.name) := by rw [bne, hE]
      have HC1 := Lib.hid (fun (W : World) k hk => rec_new prE W k s #[.string S, .string S2] (by rw [HSe.out]) hk)
      have HC2 := Lib.hid (fun (W : World) k hk => rec_new prE W k ⟨xn, xv⟩ #[.string T, .string T2] (by rw [hT, hT2]; rfl) hk)
      have HLn := Lib.hid (show o.length ≤ 1048576 ∧ (o ++ [s]).length ≤ 1048576 ∧ (o ++ [(⟨xn, xv⟩ : Pr)]).length ≤ 2 * (k + 1) ∧ (o ++ [s]).length ≤ 2 * (k + 1) ∧ (o ++ [s] ++ [(⟨xn, xv⟩ : Pr)]).length ≤ 2 * (k + 1) ∧ o.length ≤ 2 * (k + 1) by simp; omega)
      clear hT hT2 hX hbl HF u0 u1
      obtain ⟨u0, u1, p0, p1, -⟩ := HU.out wr HB.out
      rcases hw with ⟨rfl, t1, hp⟩ | ⟨rfl, t1, hp⟩ | ⟨rfl, t2, t1, hp⟩ | ⟨rfl, t2, t1, hp⟩ | ⟨rfl, t2, t1, hp⟩
      · rw [hp] at HNx
        rw [t1] at hE hE2
        clear hp t1
        have hbr := HB.out
        have hor := HOw.out
        clear HB HOw
        go_wp2_with fail
        go_quiet (fail)
        have hbrq := drewN_below hbr nq
        have horq := hor.keep (drewN_below (Below.refl wr.heap.size wr) nq)
        clear u0 u1 p0 p1
        generalize wr.drewN nq = wa at hbrq horq ⊢
        clear hbr hor nq
        have HBa := Lib.hid hbrq
        have HOa := Lib.hid horq
        clear hbrq horq
        obtain ⟨u0, u1, p0, p1, -⟩ := HU.out wa HBa.out
        have hbr := HBa.out
        have hor := HOa.out
        clear HBa HOa
        go_wp2_with fail
        go_quiet (fail)
        have hbrq := drewN_below hbr nq
        have horq := hor.keep (drewN_below (Below.refl wa.heap.size wa) nq)
        clear u0 u1 p0 p1
        generalize wa.drewN nq = wc at hbrq horq ⊢
        clear hbr hor nq
        have HBc := Lib.hid hbrq
        have HOc := Lib.hid horq
        clear hbrq horq
        obtain ⟨u0, u1, p0, p1, -⟩ := HU.out wc HBc.out
        go_wp2_with fail
        go_roundw
        case rel => exact ⟨k + 1, o, true, by omega, by go_num, rfl, HLn.out.2.2.2.2.2, HNx, HOc, HBc⟩
        case measure => simp [intOf]; omega
      · rw [hp] at HNx
        rw [t1] at hE hE2
        clear hp t1
        have hbr := HB.out
        have hor := HOw.out
        clear HB HOw
        go_wp2_with fail
        go_quiet (fail)
        have hbrq := drewN_below hbr nq
        have horq := hor.keep (drewN_below (Below.refl wr.heap.size wr) nq)
        clear u0 u1 p0 p1
        generalize wr.drewN nq = wa at hbrq horq ⊢
        clear hbr hor nq
        have HBa := Lib.hid hbrq
        have HOa := Lib.hid horq
        clear hbrq horq
        obtain ⟨u0, u1, p0, p1, -⟩ := HU.out wa HBa.out
        have hbr := HBa.out
        have hor := HOa.out
        clear HBa HOa
        go_wp2_with fail
        go_quiet (fail)
        have hbrq := drewN_below hbr nq
        have horq := hor.keep (drewN_below (Below.refl wa.heap.size wa) nq)
        clear u0 u1 p0 p1
        generalize wa.drewN nq = wc at hbrq horq ⊢
        clear hbr hor nq
        have HBc := Lib.hid hbrq
        have HOc := Lib.hid horq
        clear hbrq horq
        obtain ⟨u0, u1, p0, p1, -⟩ := HU.out wc HBc.out
        have HO2 := Lib.hid (HOc.out.keep (bel_new wc (.cells #[.string T, .string T2] prE.ty)))
        have HB2 := Lib.hid (HBc.out.alloc HBc.out.size (.cells #[.string T, .string T2] prE.ty))
        have HLq := Lib.hid HLn.out.1
        go_wp2_with (at_builtin; refine wpList_append_r prE (w0 := w1) rfl (.tmp 39) (.tmp 44) rfl _ _ rfl HO2.out HB2.out wc.heap.size ⟨xn, xv⟩ 1 rfl (HC2.out wc wc.heap.size rfl) HLq.out ?_; intro v4 w4 hown2 hb4)
        go_roundw
        case rel => exact ⟨k + 1, o ++ [⟨xn, xv⟩], true, by omega, by go_num, rfl, HLn.out.2.2.1, HNx, Lib.hid hown2, Lib.hid hb4⟩
        case measure => simp [intOf]; omega
      · rw [hp] at HNx
        rw [t1] at hE hE2
        rw [t2] at hM
        clear t2
        clear hp t1
        have hbr := HB.out
        have hor := HOw.out
        clear HB HOw
        go_wp2_with fail
        go_quiet (fail)
        have hbrq := drewN_below hbr nq
        have horq := hor.keep (drewN_below (Below.refl wr.heap.size wr) nq)
        clear u0 u1 p0 p1
        generalize wr.drewN nq = wa at hbrq horq ⊢
        clear hbr hor nq
        have HBa := Lib.hid hbrq
        have HOa := Lib.hid horq
        clear hbrq horq
        obtain ⟨u0, u1, p0, p1, -⟩ := HU.out wa HBa.out
        have hbr := HBa.out
        have hor := HOa.out
        clear HBa HOa
        go_wp2_with fail
        go_quiet (fail)
        have hbrq := drewN_below hbr nq
        have horq := hor.keep (drewN_below (Below.refl wa.heap.size wa) nq)
        clear u0 u1 p0 p1
        generalize wa.drewN nq = wc at hbrq horq ⊢
        clear hbr hor nq
        have HBc := Lib.hid hbrq
        have HOc := Lib.hid horq
        clear hbrq horq
        obtain ⟨u0, u1, p0, p1, -⟩ := HU.out wc HBc.out
        have HO2 := Lib.hid (HOc.out.keep (bel_new wc (.cells #[.string T, .string T2] prE.ty)))
        have HB2 := Lib.hid (HBc.out.alloc HBc.out.size (.cells #[.string T, .string T2] prE.ty))
        have HLq := Lib.hid HLn.out.1
        go_wp2_with (at_builtin; refine wpList_append_r prE (w0 := w1) rfl (.tmp 39) (.tmp 44) rfl _ _ rfl HO2.out HB2.out wc.heap.size ⟨xn, xv⟩ 1 rfl (HC2.out wc wc.heap.size rfl) HLq.out ?_; intro v4 w4 hown2 hb4)
        go_roundw
        case rel => exact ⟨k + 1, o ++ [⟨xn, xv⟩], false, by omega, by go_num, rfl, HLn.out.2.2.1, HNx, Lib.hid hown2, Lib.hid hb4⟩
        case measure => simp [intOf]; omega
      · rw [hp] at HNx
        rw [t1] at hE hE2
        rw [t2] at hM
        clear t2
        clear hp t1
        have hbr := HB.out
        have hor := HOw.out
        clear HB HOw
        go_wp2_with fail
        go_quiet (fail)
        have hbrq := drewN_below hbr nq
        have horq := hor.keep (drewN_below (Below.refl wr.heap.size wr) nq)
        clear u0 u1 p0 p1
        generalize wr.drewN nq = wa at hbrq horq ⊢
        clear hbr hor nq
        have HBa := Lib.hid hbrq
        have HOa := Lib.hid horq
        clear hbrq horq
        obtain ⟨u0, u1, p0, p1, -⟩ := HU.out wa HBa.out
        have HO1 := Lib.hid (HOa.out.keep (bel_new wa (.cells #[.string S, .string S2] prE.ty)))
        have HB1 := Lib.hid (HBa.out.alloc HBa.out.size (.cells #[.string S, .string S2] prE.ty))
        have HLp := Lib.hid HLn.out.1
        go_wp2_with (at_builtin; refine wpList_append_r prE (w0 := w1) rfl (.tmp 27) (.tmp 29) rfl _ _ rfl HO1.out HB1.out wa.heap.size s 1 rfl (HC1.out wa wa.heap.size rfl) HLp.out ?_; intro v' wb hown1 hb3)
        clear HO1 HB1 HOa HBa u0 u1 p0 p1
        obtain ⟨u0, u1, p0, p1, -⟩ := HU.out wb hb3
        have hbr := hb3
        have hor := hown1
        clear hb3 hown1
        go_wp2_with fail
        go_quiet (fail)
        have hbrq := drewN_below hbr nq
        have horq := hor.keep (drewN_below (Below.refl wb.heap.size wb) nq)
        clear u0 u1 p0 p1
        generalize wb.drewN nq = wc at hbrq horq ⊢
        clear hbr hor nq
        have HBc := Lib.hid hbrq
        have HOc := Lib.hid horq
        clear hbrq horq
        obtain ⟨u0, u1, p0, p1, -⟩ := HU.out wc HBc.out
        go_wp2_with fail
        go_roundw
        case rel => exact ⟨k + 1, o ++ [s], true, by omega, by go_num, rfl, HLn.out.2.2.2.1, HNx, HOc, HBc⟩
        case measure => simp [intOf]; omega
      · rw [hp] at HNx
        rw [t1] at hE hE2
        rw [t2] at hM
        clear t2
        clear hp t1
        have hbr := HB.out
        have hor := HOw.out
        clear HB HOw
        go_wp2_with fail
        go_quiet (fail)
        have hbrq := drewN_below hbr nq
        have horq := hor.keep (drewN_below (Below.refl wr.heap.size wr) nq)
        clear u0 u1 p0 p1
        generalize wr.drewN nq = wa at hbrq horq ⊢
        clear hbr hor nq
        have HBa := Lib.hid hbrq
        have HOa := Lib.hid horq
        clear hbrq horq
        obtain ⟨u0, u1, p0, p1, -⟩ := HU.out wa HBa.out
        have HO1 := Lib.hid (HOa.out.keep (bel_new wa (.cells #[.string S, .string S2] prE.ty)))
        have HB1 := Lib.hid (HBa.out.alloc HBa.out.size (.cells #[.string S, .string S2] prE.ty))
        have HLp := Lib.hid HLn.out.1
        go_wp2_with (at_builtin; refine wpList_append_r prE (w0 := w1) rfl (.tmp 27) (.tmp 29) rfl _ _ rfl HO1.out HB1.out wa.heap.size s 1 rfl (HC1.out wa wa.heap.size rfl) HLp.out ?_; intro v' wb hown1 hb3)
        clear HO1 HB1 HOa HBa u0 u1 p0 p1
        obtain ⟨u0, u1, p0, p1, -⟩ := HU.out wb hb3
        have hbr := hb3
        have hor := hown1
        clear hb3 hown1
        go_wp2_with fail
        go_quiet (fail)
        have hbrq := drewN_below hbr nq
        have horq := hor.keep (drewN_below (Below.refl wb.heap.size wb) nq)
        clear u0 u1 p0 p1
        generalize wb.drewN nq = wc at hbrq horq ⊢
        clear hbr hor nq
        have HBc := Lib.hid hbrq
        have HOc := Lib.hid horq
        clear hbrq horq
        obtain ⟨u0, u1, p0, p1, -⟩ := HU.out wc HBc.out
        have HO2 := Lib.hid (HOc.out.keep (bel_new wc (.cells #[.string T, .string T2] prE.ty)))
        have HB2 := Lib.hid (HBc.out.alloc HBc.out.size (.cells #[.string T, .string T2] prE.ty))
        have HLq := Lib.hid HLn.out.2.1
        go_wp2_with (at_builtin; refine wpList_append_r prE (w0 := w1) rfl (.tmp 39) (.tmp 44) rfl _ _ rfl HO2.out HB2.out wc.heap.size ⟨xn, xv⟩ 1 rfl (HC2.out wc wc.heap.size rfl) HLq.out ?_; intro v4 w4 hown2 hb4)
        go_roundw
        case rel => exact ⟨k + 1, o ++ [s] ++ [⟨xn, xv⟩], true, by omega, by go_num, rfl, HLn.out.2.2.2.2.1, HNx, Lib.hid hown2, Lib.hid hb4⟩
        case measure => simp [intOf]; omega
    · have d1 : decide ((k : Int) < (n : Int)) = false := decide_eq_false (by omega)
      have HX := Lib.hid (show putP L s = putPE s (o, B) by
        have h := HF.out
        rw [List.take_of_length_le (by rw [HN.out]; omega)] at h
        unfold putP
        rw [h])
      have hol2 : o.length ≤ 1048576 := by omega
      have HBw := Lib.hid (HW.out.trans (HB.out.mono HW.out.size))
      have p0 := (HP.out.keep HB.out).c0
      have p1 := (HP.out.keep HB.out).c1
      cases B with
      | true =>
        have HR := Lib.hid (show AnsR prE w.heap.size wr u5 (putP L s) by rw [HX.out]; exact HOw.out.ans.low HW.out.size)
        go_wp2_with fail
        go_ret
        exact ⟨_, rfl, HR.out, HBw.out⟩
      | false =>
        have HO1 := Lib.hid (HOw.out.keep (bel_new wr (.cells #[.string S, .string S2] prE.ty)))
        have HBa := Lib.hid (HB.out.alloc HB.out.size (.cells #[.string S, .string S2] prE.ty))
        have HC1 := Lib.hid (rec_new prE wr wr.heap.size s #[.string S, .string S2] (by rw [HSe.out]) rfl)
        go_wp2_with (at_builtin; refine wpList_append_r prE (w0 := w1) rfl (.tmp 48) (.tmp 50) rfl _ _ rfl HO1.out HBa.out wr.heap.size s 1 rfl HC1.out hol2 ?_; intro v' w3 hown1 hb3)
        have HR := Lib.hid (show AnsR prE w.heap.size w3 v' (putP L s) by rw [HX.out]; exact hown1.ans.low HW.out.size)
        have HBf := Lib.hid (HW.out.trans (hb3.mono HW.out.size))
        go_wp2_with fail
        go_ret
        exact ⟨_, rfl, HR.out, HBf.out⟩

end Go.Proofs.YtodpocciimbjbaaDoor.RefV
namespace Go.Proofs.YtodpocciimbjbaaDoor.RefV
open Go.RowKit Kit StrT RowG BOrd ValT
open Go.Op (bytesLess)
set_option linter.unusedVariables false
set_option maxRecDepth 100000

def MarksA (L : List Mk) (w : World) (e : Ending) (w' : World) : Prop := ∃ v, e = .returned v ∧ AnsR mkE w.heap.size w' v L ∧ Below w.heap.size w w'
theorem putM_ways (m x : Mk) (b : Bool) (o : List Mk) : (decide (x.name = m.name) = true ∧ putMS m (o, b) x = (o, b)) ∨ (decide (x.name = m.name) = false ∧ b = true ∧ putMS m (o, b) x = (o ++ [x], true)) ∨
    (decide (x.name = m.name) = false ∧ b = false ∧ ¬ m.n < x.n ∧ x.n ≠ m.n ∧ putMS m (o, b) x = (o ++ [x], false)) ∨ (decide (x.name = m.name) = false ∧ b = false ∧ ¬ m.n < x.n ∧ x.n = m.n ∧ bytesLess x.name m.name = true ∧ putMS m (o, b) x = (o ++ [x], false)) ∨
    (decide (x.name = m.name) = false ∧ b = false ∧ m.n < x.n ∧ putMS m (o, b) x = (o ++ [m] ++ [x], true)) ∨ (decide (x.name = m.name) = false ∧ b = false ∧ ¬ m.n < x.n ∧ x.n = m.n ∧ bytesLess x.name m.name = false ∧ putMS m (o, b) x = (o ++ [m] ++ [x], true)) := by
  unfold putMS
  simp only
  by_cases h : x.name = m.name
  · exact Or.inl ⟨decide_eq_true h, by rw [if_pos h]⟩
  · cases b with
    | true => exact Or.inr (Or.inl ⟨decide_eq_false h, rfl, by rw [if_neg h, if_neg (by simp)]⟩)
    | false =>
      by_cases h1 : m.n < x.n
      · exact Or.inr (Or.inr (Or.inr (Or.inr (Or.inl ⟨decide_eq_false h, rfl, h1, by rw [if_neg h, if_pos ⟨rfl, Or.inl h1⟩]⟩))))
      · by_cases h2 : x.n = m.n
        · cases h3 : bytesLess x.name m.name with
          | true =>
            have h4 : ¬ (false = false ∧ gtM x m) := fun h => by
              rcases h.2 with h5 | ⟨-, h5⟩
              · exact h1 h5
              · rw [less_asymm h3] at h5; cases h5
            exact Or.inr (Or.inr (Or.inr (Or.inl ⟨decide_eq_false h, rfl, h1, h2, rfl, by rw [if_neg h, if_neg h4]⟩)))
          | false =>
            have h4 : bytesLess m.name x.name = true := by
              rcases (geq_iff _ _).1 h3 with h5 | h5
              · exact absurd h5.symm h
              · exact h5
            exact Or.inr (Or.inr (Or.inr (Or.inr (Or.inr ⟨decide_eq_false h, rfl, h1, h2, rfl, by rw [if_neg h, if_pos ⟨rfl, Or.inr ⟨h2, h4⟩⟩]⟩))))
        · have h4 : ¬ (false = false ∧ gtM x m) := fun h => by
            rcases h.2 with h5 | ⟨h5, -⟩
            · exact h1 h5
            · exact h2 h5
          exact Or.inr (Or.inr (Or.inl ⟨decide_eq_false h, rfl, h1, h2, by rw [if_neg h, if_neg h4]⟩))

set_option maxHeartbeats 8000000 in
theorem rputm (q : Option Addr) (L : List Mk) (n c : Nat) (S : ByteArray) (m : Mk) (w : World) (hn : L.length = n) (h : Rs mkE w q L) (hz : n ≤ 500000) (hS : S.data.toList = m.name) :
    Calls Tryd.prog 22 #[.slice q n c, .agg #[.string S, .int .i64 m.n]] w (MarksA (putM L m) w) := by
  have HW := Lib.hid (show Below w.heap.size w (w.alloc (.cells #[.string S, .int .i64 m.n] 39)) from bel_new w _)
  have HS := Lib.hid (h.keep HW.out)
  have HN := Lib.hid hn
  have HSd := Lib.hid hS
  have HSe := Lib.hid (show mkE.enc m = [.string S, .int .i64 m.n] by
    show [Value.string ⟨m.name.toArray⟩, Value.int .i64 m.n] = _
    rw [← hS])
  have HP := Lib.hid (PCells.of (show (w.alloc (.cells #[.string S, .int .i64 m.n] 39)).heap[w.heap.size]? = some (.cells #[.string S, .int .i64 m.n] 39 (0, 0)) from heap_alloc_last w _))
  have HO := Lib.hid (ownR_new mkE (w.alloc (.cells #[.string S, .int .i64 m.n] 39)).heap.size (w.alloc (.cells #[.string S, .int .i64 m.n] 39)) (w.heap.size + 1) (by simp) (Nat.le_refl _))
  have HB0 := Lib.hid (show Below (w.alloc (.cells #[.string S, .int .i64 m.n] 39)).heap.size (w.alloc (.cells #[.string S, .int .i64 m.n] 39)) ((w.alloc (.cells #[.string S, .int .i64 m.n] 39)).alloc (.cells #[] mkE.ty)) from bel_new _ _)
  have HE := Lib.hid (fun k (h : k < L.length) => fold_take (putMS m) ([], false) L k h)
  have HWs := Lib.hid (show (w.alloc (.cells #[.string S, .int .i64 m.n] 39)).heap.size = w.heap.size + 1 by simp)
  obtain ⟨M, hMM⟩ : ∃ M, M = m.n := ⟨_, rfl⟩
  rw [← hMM] at HSe HP HW HS HO HB0 HWs ⊢
  have HMm := Lib.hid hMM
  clear h hn hS hMM
  go_enter Tryd.func22, Tryd.ntmps22
  go_wp2_with fail
  generalize w.alloc (.cells #[.string S, .int .i64 M] 39) = w1 at HW HS HP HO HB0 HWs ⊢
  go_loopw [5, 6, 7] (fun v b i wr => ∃ (k : Nat) (o : List Mk) (B : Bool), k ≤ n ∧ i = .int .i64 k ∧ b = .bool B ∧ o.length ≤ 2 * k ∧ Hid ((L.take k).foldl (putMS m) ([], false) = (o, B)) ∧ Hid (OwnR mkE w1.heap.size wr v o) ∧ Hid (Below w1.heap.size w1 wr)) (fun _ _ i _ => n - (intOf i).toNat)
  case atStart => exact ⟨0, [], false, Nat.zero_le _, rfl, rfl, Nat.le_refl _, Lib.hid rfl, HO, HB0⟩
  case round =>
    obtain ⟨k, o, B, hk, rfl, rfl, hol, HF, HOw, HB⟩ := hrel
    by_cases hlt : k < n
    · have d1 : decide ((k : Int) < (n : Int)) = true := decide_eq_true (by omega)
      have hk0 : (0 : Int) ≤ (k : Int) := by omega
      have hkn : (k : Int) < (n : Int) := by omega
      have HNx := Lib.hid (HE.out k (by rw [HN.out]; exact hlt))
      obtain ⟨b, off, e1, hbl, u0, u1⟩ := mark_cells HS.out k (by rw [HN.out]; exact hlt)
      obtain ⟨X, hX⟩ : ∃ X, X = L[k]'(by rw [HN.out]; exact hlt) := ⟨_, rfl⟩
      rw [← hX] at u0 u1 HNx
      rw [HF.out] at HNx
      have hw := putM_ways m X B o
      obtain ⟨xn, x⟩ := X
      simp only at u0 u1 hw
      rw [← HMm.out] at hw
      obtain ⟨T, hT⟩ : ∃ T : ByteArray, T = ⟨xn.toArray⟩ := ⟨_, rfl⟩
      rw [← hT] at u0
      have HU := Lib.hid (fun W (hb : Below w1.heap.size w1 W) => (⟨(hb.cell (p := ⟨b, off + k * 2, none⟩) hbl).trans u0, (hb.cell (p := ⟨b, off + k * 2 + 1, none⟩) hbl).trans u1, (HP.out.keep hb).c0, (HP.out.keep hb).c1, (HP.out.keep hb).hp⟩ :
        W.cell? ⟨b, off + k * 2, none⟩ = some (.string T) ∧ W.cell? ⟨b, off + k * 2 + 1, none⟩ = some (.int .i64 x) ∧ W.cell? ⟨w.heap.size, 0, none⟩ = some (.string S) ∧ W.cell? ⟨w.heap.size, 1, none⟩ = some (.int .i64 M) ∧ W.heap[w.heap.size]? = some (.cells #[.string S, .int .i64 M] 39 (0, 0))))
      subst e1
      have hE : (T.toList == S.toList) = decide (xn = m.name) := by rw [hT, bytes_of, ByteArray.toList_eq, HSd.out]; rw [Bool.eq_iff_iff]; simp
      have hM : bytesLess T.toList S.toList = bytesLess xn m.name := by rw [hT, bytes_of, ByteArray.toList_eq, HSd.out]
      have HC1 := Lib.hid (fun (W : World) k hk => rec_new mkE W k m #[.string S, .int .i64 M] (by rw [HSe.out]) hk)
      have HC2 := Lib.hid (fun (W : World) k hk => rec_new mkE W k ⟨xn, x⟩ #[.string T, .int .i64 x] (by rw [hT]; rfl) hk)
      have HLn := Lib.hid (show o.length ≤ 1048576 ∧ (o ++ [m]).length ≤ 1048576 ∧ (o ++ [(⟨xn, x⟩ : Mk)]).length ≤ 2 * (k + 1) ∧ (o ++ [m] ++ [(⟨xn, x⟩ : Mk)]).length ≤ 2 * (k + 1) ∧ o.length ≤ 2 * (k + 1) by simp; omega)
      clear hT hX hbl HF u0 u1
      obtain ⟨u0, u1, p0, p1, -⟩ := HU.out wr HB.out
      rcases hw with ⟨t1, hp⟩ | ⟨t1, rfl, hp⟩ | ⟨t1, rfl, t2, t3, hp⟩ | ⟨t1, rfl, t2, t3, t4, hp⟩ | ⟨t1, rfl, t2, hp⟩ | ⟨t1, rfl, t2, t3, t4, hp⟩
      · rw [hp] at HNx
        rw [t1] at hE
        clear hp t1
        have hbr := HB.out
        have hor := HOw.out
        clear HB HOw
        go_wp2_with fail
        go_quiet (fail)
        have hbrq := drewN_below hbr nq
        have horq := hor.keep (drewN_below (Below.refl wr.heap.size wr) nq)
        clear u0 u1 p0 p1
        generalize wr.drewN nq = wa at hbrq horq ⊢
        clear hbr hor nq
        have HBa := Lib.hid hbrq
        have HOa := Lib.hid horq
        clear hbrq horq
        obtain ⟨u0, u1, p0, p1, -⟩ := HU.out wa HBa.out
        go_wp2_with fail
        go_roundw
        case rel => exact ⟨k + 1, o, B, by omega, by go_num, rfl, HLn.out.2.2.2.2, HNx, HOa, HBa⟩
        case measure => simp [intOf]; omega
      · rw [hp] at HNx
        rw [t1] at hE
        clear hp t1
        have hbr := HB.out
        have hor := HOw.out
        clear HB HOw
        go_wp2_with fail
        go_quiet (fail)
        have hbrq := drewN_below hbr nq
        have horq := hor.keep (drewN_below (Below.refl wr.heap.size wr) nq)
        clear u0 u1 p0 p1
        generalize wr.drewN nq = wa at hbrq horq ⊢
        clear hbr hor nq
        have HBa := Lib.hid hbrq
        have HOa := Lib.hid horq
        clear hbrq horq
        obtain ⟨u0, u1, p0, p1, -⟩ := HU.out wa HBa.out
        have hbr := HBa.out
        have hor := HOa.out
        clear HBa HOa
        go_wp2_with fail
        go_quiet (fail)
        have hbrq := drewN_below hbr nq
        have horq := hor.keep (drewN_below (Below.refl wa.heap.size wa) nq)
        clear u0 u1 p0 p1
        generalize wa.drewN nq = wc at hbrq horq ⊢
        clear hbr hor nq
        have HBc := Lib.hid hbrq
        have HOc := Lib.hid horq
        clear hbrq horq
        obtain ⟨u0, u1, p0, p1, -⟩ := HU.out wc HBc.out
        have HO2 := Lib.hid (HOc.out.keep (bel_new wc (.cells #[.string T, .int .i64 x] mkE.ty)))
        have HB2 := Lib.hid (HBc.out.alloc HBc.out.size (.cells #[.string T, .int .i64 x] mkE.ty))
        have HLq := Lib.hid HLn.out.1
        go_wp2_with (at_builtin; refine wpList_append_r mkE (w0 := w1) rfl (.tmp 59) (.tmp 64) rfl _ _ rfl HO2.out HB2.out wc.heap.size ⟨xn, x⟩ 1 rfl (HC2.out wc wc.heap.size rfl) HLq.out ?_; intro v4 w4 hown2 hb4)
        go_roundw
        case rel => exact ⟨k + 1, o ++ [⟨xn, x⟩], true, by omega, by go_num, rfl, HLn.out.2.2.1, HNx, Lib.hid hown2, Lib.hid hb4⟩
        case measure => simp [intOf]; omega
      · rw [hp] at HNx
        rw [t1] at hE
        have t5 : (x == M) = false := beq_eq_false_iff_ne.2 t3
        have t6 : decide (M < x) = false := decide_eq_false t2
        clear hp t1
        have hbr := HB.out
        have hor := HOw.out
        clear HB HOw
        go_wp2_with fail
        go_quiet (fail)
        have hbrq := drewN_below hbr nq
        have horq := hor.keep (drewN_below (Below.refl wr.heap.size wr) nq)
        clear u0 u1 p0 p1
        generalize wr.drewN nq = wa at hbrq horq ⊢
        clear hbr hor nq
        have HBa := Lib.hid hbrq
        have HOa := Lib.hid horq
        clear hbrq horq
        obtain ⟨u0, u1, p0, p1, -⟩ := HU.out wa HBa.out
        have hbr := HBa.out
        have hor := HOa.out
        clear HBa HOa
        go_wp2_with fail
        go_quiet (fail)
        have hbrq := drewN_below hbr nq
        have horq := hor.keep (drewN_below (Below.refl wa.heap.size wa) nq)
        clear u0 u1 p0 p1
        generalize wa.drewN nq = wc at hbrq horq ⊢
        clear hbr hor nq
        have HBc := Lib.hid hbrq
        have HOc := Lib.hid horq
        clear hbrq horq
        obtain ⟨u0, u1, p0, p1, -⟩ := HU.out wc HBc.out
        have HO2 := Lib.hid (HOc.out.keep (bel_new wc (.cells #[.string T, .int .i64 x] mkE.ty)))
        have HB2 := Lib.hid (HBc.out.alloc HBc.out.size (.cells #[.string T, .int .i64 x] mkE.ty))
        have HLq := Lib.hid HLn.out.1
        go_wp2_with (at_builtin; refine wpList_append_r mkE (w0 := w1) rfl (.tmp 59) (.tmp 64) rfl _ _ rfl HO2.out HB2.out wc.heap.size ⟨xn, x⟩ 1 rfl (HC2.out wc wc.heap.size rfl) HLq.out ?_; intro v4 w4 hown2 hb4)
        go_roundw
        case rel => exact ⟨k + 1, o ++ [⟨xn, x⟩], false, by omega, by go_num, rfl, HLn.out.2.2.1, HNx, Lib.hid hown2, Lib.hid hb4⟩
        case measure => simp [intOf]; omega
      · rw [hp] at HNx
        rw [t1] at hE
        have t5 : (x == M) = true := beq_iff_eq.2 t3
        have t6 : decide (M < x) = false := decide_eq_false t2
        rw [t4] at hM
        clear t3
        clear hp t1
        have hbr := HB.out
        have hor := HOw.out
        clear HB HOw
        go_wp2_with fail
        go_quiet (fail)
        have hbrq := drewN_below hbr nq
        have horq := hor.keep (drewN_below (Below.refl wr.heap.size wr) nq)
        clear u0 u1 p0 p1
        generalize wr.drewN nq = wa at hbrq horq ⊢
        clear hbr hor nq
        have HBa := Lib.hid hbrq
        have HOa := Lib.hid horq
        clear hbrq horq
        obtain ⟨u0, u1, p0, p1, -⟩ := HU.out wa HBa.out
        have hbr := HBa.out
        have hor := HOa.out
        clear HBa HOa
        go_wp2_with fail
        go_quiet (fail)
        have hbrq := drewN_below hbr nq
        have horq := hor.keep (drewN_below (Below.refl wa.heap.size wa) nq)
        clear u0 u1 p0 p1
        generalize wa.drewN nq = wc at hbrq horq ⊢
        clear hbr hor nq
        have HBc := Lib.hid hbrq
        have HOc := Lib.hid horq
        clear hbrq horq
        obtain ⟨u0, u1, p0, p1, -⟩ := HU.out wc HBc.out
        have HO2 := Lib.hid (HOc.out.keep (bel_new wc (.cells #[.string T, .int .i64 x] mkE.ty)))
        have HB2 := Lib.hid (HBc.out.alloc HBc.out.size (.cells #[.string T, .int .i64 x] mkE.ty))
        have HLq := Lib.hid HLn.out.1
        go_wp2_with (at_builtin; refine wpList_append_r mkE (w0 := w1) rfl (.tmp 59) (.tmp 64) rfl _ _ rfl HO2.out HB2.out wc.heap.size ⟨xn, x⟩ 1 rfl (HC2.out wc wc.heap.size rfl) HLq.out ?_; intro v4 w4 hown2 hb4)
        go_roundw
        case rel => exact ⟨k + 1, o ++ [⟨xn, x⟩], false, by omega, by go_num, rfl, HLn.out.2.2.1, HNx, Lib.hid hown2, Lib.hid hb4⟩
        case measure => simp [intOf]; omega
      · rw [hp] at HNx
        rw [t1] at hE
        have t6 : decide (M < x) = true := decide_eq_true t2
        clear hp t1
        have hbr := HB.out
        have hor := HOw.out
        clear HB HOw
        go_wp2_with fail
        go_quiet (fail)
        have hbrq := drewN_below hbr nq
        have horq := hor.keep (drewN_below (Below.refl wr.heap.size wr) nq)
        clear u0 u1 p0 p1
        generalize wr.drewN nq = wa at hbrq horq ⊢
        clear hbr hor nq
        have HBa := Lib.hid hbrq
        have HOa := Lib.hid horq
        clear hbrq horq
        obtain ⟨u0, u1, p0, p1, -⟩ := HU.out wa HBa.out
        have hbr := HBa.out
        have hor := HOa.out
        clear HBa HOa
        go_wp2_with fail
        go_quiet (fail)
        have hbrq := drewN_below hbr nq
        have horq := hor.keep (drewN_below (Below.refl wa.heap.size wa) nq)
        clear u0 u1 p0 p1
        generalize wa.drewN nq = wc at hbrq horq ⊢
        clear hbr hor nq
        have HBc := Lib.hid hbrq
        have HOc := Lib.hid horq
        clear hbrq horq
        obtain ⟨u0, u1, p0, p1, -⟩ := HU.out wc HBc.out
        have HO1 := Lib.hid (HOc.out.keep (bel_new wc (.cells #[.string S, .int .i64 M] mkE.ty)))
        have HB1 := Lib.hid (HBc.out.alloc HBc.out.size (.cells #[.string S, .int .i64 M] mkE.ty))
        have HLp := Lib.hid HLn.out.1
        have HLq := Lib.hid HLn.out.2.1
        go_wp2_with (first
          | (at_builtin; refine wpList_append_r mkE (w0 := w1) rfl (.tmp 55) (.tmp 57) rfl _ _ rfl HO1.out HB1.out wc.heap.size m 1 rfl (HC1.out wc wc.heap.size rfl) HLp.out ?_; intro v' wb hown1 hb3; clear u0 u1 p0 p1; obtain ⟨u0, u1, p0, p1, -⟩ := HU.out wb hb3)
          | (at_builtin; refine wpList_append_r mkE (w0 := w1) rfl (.tmp 59) (.tmp 64) rfl _ _ rfl (hown1.keep (bel_new wb (.cells #[.string T, .int .i64 x] mkE.ty))) (hb3.alloc hb3.size (.cells #[.string T, .int .i64 x] mkE.ty)) wb.heap.size ⟨xn, x⟩ 1 rfl (HC2.out wb wb.heap.size rfl) HLq.out ?_; intro v4 w4 hown2 hb4))
        go_roundw
        case rel => exact ⟨k + 1, o ++ [m] ++ [⟨xn, x⟩], true, by omega, by go_num, rfl, HLn.out.2.2.2.1, HNx, Lib.hid hown2, Lib.hid hb4⟩
        case measure => simp [intOf]; omega
      · rw [hp] at HNx
        rw [t1] at hE
        have t5 : (x == M) = true := beq_iff_eq.2 t3
        have t6 : decide (M < x) = false := decide_eq_false t2
        rw [t4] at hM
        clear t3
        clear hp t1
        have hbr := HB.out
        have hor := HOw.out
        clear HB HOw
        go_wp2_with fail
        go_quiet (fail)
        have hbrq := drewN_below hbr nq
        have horq := hor.keep (drewN_below (Below.refl wr.heap.size wr) nq)
        clear u0 u1 p0 p1
        generalize wr.drewN nq = wa at hbrq horq ⊢
        clear hbr hor nq
        have HBa := Lib.hid hbrq
        have HOa := Lib.hid horq
        clear hbrq horq
        obtain ⟨u0, u1, p0, p1, -⟩ := HU.out wa HBa.out
        have hbr := HBa.out
        have hor := HOa.out
        clear HBa HOa
        go_wp2_with fail
        go_quiet (fail)
        have hbrq := drewN_below hbr nq
        have horq := hor.keep (drewN_below (Below.refl wa.heap.size wa) nq)
        clear u0 u1 p0 p1
        generalize wa.drewN nq = wc at hbrq horq ⊢
        clear hbr hor nq
        have HBc := Lib.hid hbrq
        have HOc := Lib.hid horq
        clear hbrq horq
        obtain ⟨u0, u1, p0, p1, -⟩ := HU.out wc HBc.out
        have HO1 := Lib.hid (HOc.out.keep (bel_new wc (.cells #[.string S, .int .i64 M] mkE.ty)))
        have HB1 := Lib.hid (HBc.out.alloc HBc.out.size (.cells #[.string S, .int .i64 M] mkE.ty))
        have HLp := Lib.hid HLn.out.1
        have HLq := Lib.hid HLn.out.2.1
        go_wp2_with (first
          | (at_builtin; refine wpList_append_r mkE (w0 := w1) rfl (.tmp 55) (.tmp 57) rfl _ _ rfl HO1.out HB1.out wc.heap.size m 1 rfl (HC1.out wc wc.heap.size rfl) HLp.out ?_; intro v' wb hown1 hb3; clear u0 u1 p0 p1; obtain ⟨u0, u1, p0, p1, -⟩ := HU.out wb hb3)
          | (at_builtin; refine wpList_append_r mkE (w0 := w1) rfl (.tmp 59) (.tmp 64) rfl _ _ rfl (hown1.keep (bel_new wb (.cells #[.string T, .int .i64 x] mkE.ty))) (hb3.alloc hb3.size (.cells #[.string T, .int .i64 x] mkE.ty)) wb.heap.size ⟨xn, x⟩ 1 rfl (HC2.out wb wb.heap.size rfl) HLq.out ?_; intro v4 w4 hown2 hb4))
        go_roundw
        case rel => exact ⟨k + 1, o ++ [m] ++ [⟨xn, x⟩], true, by omega, by go_num, rfl, HLn.out.2.2.2.1, HNx, Lib.hid hown2, Lib.hid hb4⟩
        case measure => simp [intOf]; omega
    · have d1 : decide ((k : Int) < (n : Int)) = false := decide_eq_false (by omega)
      have HX := Lib.hid (show putM L m = putME m (o, B) by
        have h := HF.out
        rw [List.take_of_length_le (by rw [HN.out]; omega)] at h
        unfold putM
        rw [h])
      have hol2 : o.length ≤ 1048576 := by omega
      have HBw := Lib.hid (HW.out.trans (HB.out.mono HW.out.size))
      have p0 := (HP.out.keep HB.out).c0
      have p1 := (HP.out.keep HB.out).c1
      cases B with
      | true =>
        have HR := Lib.hid (show AnsR mkE w.heap.size wr u5 (putM L m) by rw [HX.out]; exact HOw.out.ans.low HW.out.size)
        go_wp2_with fail
        go_ret
        exact ⟨_, rfl, HR.out, HBw.out⟩
      | false =>
        have HO1 := Lib.hid (HOw.out.keep (bel_new wr (.cells #[.string S, .int .i64 M] mkE.ty)))
        have HBa := Lib.hid (HB.out.alloc HB.out.size (.cells #[.string S, .int .i64 M] mkE.ty))
        have HC1 := Lib.hid (rec_new mkE wr wr.heap.size m #[.string S, .int .i64 M] (by rw [HSe.out]) rfl)
        go_wp2_with (at_builtin; refine wpList_append_r mkE (w0 := w1) rfl (.tmp 68) (.tmp 70) rfl _ _ rfl HO1.out HBa.out wr.heap.size m 1 rfl HC1.out hol2 ?_; intro v' w3 hown1 hb3)
        have HR := Lib.hid (show AnsR mkE w.heap.size w3 v' (putM L m) by rw [HX.out]; exact hown1.ans.low HW.out.size)
        have HBf := Lib.hid (HW.out.trans (hb3.mono HW.out.size))
        go_wp2_with fail
        go_ret
        exact ⟨_, rfl, HR.out, HBf.out⟩

end Go.Proofs.YtodpocciimbjbaaDoor.RefV
namespace Go.Proofs.YtodpocciimbjbaaDoor.RefV
open Go.RowKit Kit StrT RowG BOrd ValT
open Go.Op (bytesLess)
set_option linter.unusedVariables false
set_option maxRecDepth 100000

/-- The three blocks that 'Fit' makes: what it was given, its answer, what it makes. -/
structure FB (w W : World) (x z n : Array Value) : Prop where
  bx : W.heap[w.heap.size]? = some (.cells x 26 (0, 0))
  re : W.heap[w.heap.size + 1]? = some (.cells z 26 (0, 0))
  ou : W.heap[w.heap.size + 1 + 1]? = some (.cells n 26 (0, 0))
  bl : Below w.heap.size w W
  sz : w.heap.size + 1 + 1 < W.heap.size
theorem FB.new (w : World) (x z n : Array Value) : FB w (((w.alloc (.cells x 26)).alloc (.cells z 26)).alloc (.cells n 26)) x z n where
  bx := by
    rw [Below.heap_alloc _ _ _ (by simp; omega), Below.heap_alloc _ _ _ (by simp)]
    exact heap_alloc_last w _
  re := by
    rw [Below.heap_alloc _ _ _ (by simp)]
    have h := heap_alloc_last (w.alloc (.cells x 26)) (.cells z 26)
    simpa using h
  ou := by
    have h := heap_alloc_last ((w.alloc (.cells x 26)).alloc (.cells z 26)) (.cells n 26)
    simpa using h
  bl := ((bel_new w _).alloc (by simp) _).alloc (by simp; omega) _
  sz := by simp
theorem FB.keep {w W W' : World} {x z n : Array Value} (h : FB w W x z n) (hb : Below W.heap.size W W') : FB w W' x z n where
  bx := by rw [hb.block _ (by have := h.sz; omega)]; exact h.bx
  re := by rw [hb.block _ (by have := h.sz; omega)]; exact h.re
  ou := by rw [hb.block _ h.sz]; exact h.ou
  bl := h.bl.trans (hb.mono (by have := h.sz; omega))
  sz := Nat.lt_of_lt_of_le h.sz hb.size
theorem FB.put {w W : World} {x z n : Array Value} (h : FB w W x z n) (j : Nat) (v : Value) : FB w (W.setCell ⟨w.heap.size + 1 + 1, j, none⟩ v) x z (n.setIfInBounds j v) where
  bx := by rw [heap_setCell_other _ _ _ _ (by show _ ≠ w.heap.size + 1 + 1; omega)]; exact h.bx
  re := by rw [heap_setCell_other _ _ _ _ (by show _ ≠ w.heap.size + 1 + 1; omega)]; exact h.re
  ou := heap_setCell_same _ _ _ _ _ _ h.ou
  bl := h.bl.setCell (by show _ ≤ w.heap.size + 1 + 1; omega) v
  sz := by simpa using h.sz
theorem ansR_put {α : Type} {E : Enc α} {base : Nat} {W : World} {v : Value} {L : List α} {a : Addr} {u : Value} (h : AnsR E base W v L) (ha : a.block < base) : AnsR E base (W.setCell a u) v L :=
  h.high (fun k hk => heap_setCell_other _ _ _ _ (by omega)) (by simp)
theorem ansR_row {α : Type} {E : Enc α} {base g : Nat} {W : World} {v : Value} {L : List α} {cs : Array Value} (h : AnsR E base W v L) (ha : g < base) : AnsR E base (W.setRow g cs) v L :=
  h.high (fun k hk => setRow_other _ _ _ _ (by omega)) (by simp)
def ValP (d : V) (w : World) (e : Ending) (w' : World) : Prop := ∃ v, e = .returned v ∧ VAns w.heap.size w' v d ∧ Below w.heap.size w w'
/-- The end: a value is stored as the answer. -/
theorem fit_ends {w W : World} {x z n : Array Value} {S : ByteArray} {vl vh vz : Value} {d : V} {base : Nat} {k : Int} (hbase : w.heap.size + 1 < base) (h : FB w W x z n) (hk : k = (d.kind : Int)) (hs : S.data.toList = d.s) (h1 : AnsR strE base W vl d.l) (h2 : AnsR prE base W vh d.h) (h3 : AnsR mkE base W vz d.z) :
    ValP d w (.returned (.agg #[.int .u8 k, .string S, vl, vh, vz])) (W.setRow (w.heap.size + 1) #[.int .u8 k, .string S, vl, vh, vz]) := by
  subst hk
  exact ⟨_, rfl, ⟨S, vl, vh, vz, rfl, hs, (ansR_row h1 hbase).low (by omega), (ansR_row h2 hbase).low (by omega), (ansR_row h3 hbase).low (by omega)⟩, below_setRow h.bl (by omega) _⟩
theorem extract_take (s : ByteArray) (a : Nat) : (s.extract 0 a).data.toList = s.data.toList.take a := by
  rw [ByteArray.data_extract, Array.toList_extract, List.extract_eq_take_drop]
  simp
theorem min_cast (n m : Nat) : min (n : Int) (m : Int) = ((min n m : Nat) : Int) := by omega

set_option maxHeartbeats 8000000 in
theorem rfit_1 (k : Int) (S : ByteArray) (ql : Option Addr) (nl cl : Nat) (qh : Option Addr) (nh ch : Nat) (qz : Option Addr) (nz cz : Nat) (d : V) (w : World) (H : VArg w k S ql nl cl qh nh ch qz nz cz d) (hS : S.size ≤ 140737488351232) (hk : d.kind % 6 = 1) :
    Calls Tryd.prog 8 #[.agg #[.int .u8 k, .string S, .slice ql nl cl, .slice qh nh ch, .slice qz nz cz]] w (ValP (fitV d) w) := by
  have HV := Lib.hid H
  have HK := Lib.hid hk
  have HFB := Lib.hid (FB.new w #[.int .u8 k, .string S, .slice ql nl cl, .slice qh nh ch, .slice qz nz cz] #[.int .u8 0, .string ⟨#[]⟩, .slice none 0 0, .slice none 0 0, .slice none 0 0] #[.int .u8 0, .string ⟨#[]⟩, .slice none 0 0, .slice none 0 0, .slice none 0 0])
  obtain ⟨m, hm⟩ : ∃ m, m = min nl 8 := ⟨_, rfl⟩
  have hmin : min (nl : Int) 8 = (m : Int) := by omega
  have hmc : m ≤ cl := by have := H.bl; omega
  have hml := H.ml
  have hfl := Nat.le_trans H.bl H.ml
  have hfh := Nat.le_trans H.bh H.mh
  have hfz := Nat.le_trans H.bz H.mz
  have x1 : (k % 6 == 1) = true := by rw [H.ek, beq_iff_eq]; omega
  have x2 : (k % 6 == 2) = false := by rw [H.ek, beq_eq_false_iff_ne]; omega
  have x3 : (k % 6 == 3) = false := by rw [H.ek, beq_eq_false_iff_ne]; omega
  have x4 : (k % 6 == 4) = false := by rw [H.ek, beq_eq_false_iff_ne]; omega
  have x5 : (k % 6 == 5) = false := by rw [H.ek, beq_eq_false_iff_ne]; omega
  have hk0 : 0 ≤ k := by rw [H.ek]; omega
  have hk1 : k ≤ 255 := by rw [H.ek]; have := H.kb; omega
  have HM := Lib.hid hm
  obtain ⟨m2, hm2⟩ : ∃ m2, m2 = min S.size 40 := ⟨_, rfl⟩
  have hmin2 : min (S.size : Int) 40 = (m2 : Int) := by omega
  obtain ⟨T, hT⟩ : ∃ T, T = S.extract 0 m2 := ⟨_, rfl⟩
  have s1 : ∀ W, (Instr.slice 9 (.string S) none (some (.int .i64 (m2 : Int))) none).run Tryd.prog W = .ok (.string T) W := fun W => by
    have h := run_slice_string_h (P := Tryd.prog) W 9 S Tryd.underlying9 .i64 (m2 : Int) (by omega) (by omega)
    rw [show ((m2 : Nat) : Int).toNat = m2 from rfl, ← hT] at h
    exact h
  have HT := Lib.hid (show T.data.toList = d.s.take 40 by
    rw [hT, extract_take, H.es, hm2]
    have hl : S.size = d.s.length := by rw [← H.es]; simp
    rcases Nat.le_total S.size 40 with h | h
    · rw [Nat.min_eq_left h, List.take_of_length_le (by omega), List.take_of_length_le (by omega)]
    · rw [Nat.min_eq_right h])
  have HD := Lib.hid (show fitV d = ⟨1, d.s.take 40, [], [], []⟩ by unfold fitV; rw [if_pos hk])
  have HF9 := HFB
  have HCs9 := Lib.hid (show (Tryd.prog.info? 26).map (·.size) = some (#[.int .u8 1, .string T, .slice none 0 0, .slice none 0 0, .slice none 0 0] : Array Value).size from val_size)
  have HOn9 := Lib.hid (show (#[.int .u8 1, .string T, .slice none 0 0, .slice none 0 0, .slice none 0 0] : Array Value).all (·.oneCell') = true by simp [Value.oneCell'])
  have HE := Lib.hid (show ValP (fitV d) w _ _ by
    rw [HD.out]
    exact fit_ends (S := T) (k := 1) (d := ⟨1, d.s.take 40, [], [], []⟩) (base := w.heap.size + 1 + 1) (Nat.lt_succ_self _) HFB.out rfl HT.out (ansR_nil strE _ _) (ansR_nil prE _ _) (ansR_nil mkE _ _))
  clear H hm hm2 hT hk
  go_enter Tryd.func8, Tryd.ntmps8
  go_wp2_with (with_reducible refine wpList_store_row rfl 26 (.tmp 2) (.tmp 28) rfl (w.heap.size + 1) #[.int .u8 1, .string T, .slice none 0 0, .slice none 0 0, .slice none 0 0] rfl rfl 26 _ HF9.out.re HCs9.out rfl HOn9.out ?_)
  exact bodyPost_ret (results_cell_row rfl _ _ (w.heap.size + 1) 26 #[.int .u8 1, .string T, .slice none 0 0, .slice none 0 0, .slice none 0 0] (0, 0) _ rfl (setRow_heap _ (w.heap.size + 1) _ _ _ _ HF9.out.re) Tryd.underlying26 rfl HCs9.out) rfl HE.out

set_option maxHeartbeats 8000000 in
theorem rfit_0 (k : Int) (S : ByteArray) (ql : Option Addr) (nl cl : Nat) (qh : Option Addr) (nh ch : Nat) (qz : Option Addr) (nz cz : Nat) (d : V) (w : World) (H : VArg w k S ql nl cl qh nh ch qz nz cz d) (hS : S.size ≤ 140737488351232) (hk : d.kind % 6 = 0) :
    Calls Tryd.prog 8 #[.agg #[.int .u8 k, .string S, .slice ql nl cl, .slice qh nh ch, .slice qz nz cz]] w (ValP (fitV d) w) := by
  have HV := Lib.hid H
  have HK := Lib.hid hk
  have HFB := Lib.hid (FB.new w #[.int .u8 k, .string S, .slice ql nl cl, .slice qh nh ch, .slice qz nz cz] #[.int .u8 0, .string ⟨#[]⟩, .slice none 0 0, .slice none 0 0, .slice none 0 0] #[.int .u8 0, .string ⟨#[]⟩, .slice none 0 0, .slice none 0 0, .slice none 0 0])
  obtain ⟨m, hm⟩ : ∃ m, m = min nl 8 := ⟨_, rfl⟩
  have hmin : min (nl : Int) 8 = (m : Int) := by omega
  have hmc : m ≤ cl := by have := H.bl; omega
  have hml := H.ml
  have hfl := Nat.le_trans H.bl H.ml
  have hfh := Nat.le_trans H.bh H.mh
  have hfz := Nat.le_trans H.bz H.mz
  have x1 : (k % 6 == 1) = false := by rw [H.ek, beq_eq_false_iff_ne]; omega
  have x2 : (k % 6 == 2) = false := by rw [H.ek, beq_eq_false_iff_ne]; omega
  have x3 : (k % 6 == 3) = false := by rw [H.ek, beq_eq_false_iff_ne]; omega
  have x4 : (k % 6 == 4) = false := by rw [H.ek, beq_eq_false_iff_ne]; omega
  have x5 : (k % 6 == 5) = false := by rw [H.ek, beq_eq_false_iff_ne]; omega
  have hk0 : 0 ≤ k := by rw [H.ek]; omega
  have hk1 : k ≤ 255 := by rw [H.ek]; have := H.kb; omega
  have HM := Lib.hid hm
  have HD := Lib.hid (show fitV d = v0 by unfold fitV; rw [if_neg (by omega), if_neg (by omega), if_neg (by omega), if_neg (by omega), if_neg (by omega)])
  clear H hm hk
  go_enter Tryd.func8, Tryd.ntmps8
  go_upto_region 27 with fail
  generalize (((w.alloc _).alloc _).alloc _) = wt at HFB ⊢
  have HF := HFB
  have HA := Lib.hid (⟨ansR_nil strE (w.heap.size + 1 + 1 + 1) wt, ansR_nil prE (w.heap.size + 1 + 1 + 1) wt, ansR_nil mkE (w.heap.size + 1 + 1 + 1) wt⟩ : AnsR strE (w.heap.size + 1 + 1 + 1) wt (.slice none 0 0) [] ∧ AnsR prE (w.heap.size + 1 + 1 + 1) wt (.slice none 0 0) [] ∧ AnsR mkE (w.heap.size + 1 + 1 + 1) wt (.slice none 0 0) [])
  have HVI := Lib.hid (show VIn wt 0 ⟨#[]⟩ none 0 0 none 0 0 none 0 0 v0 from ⟨rfl, by decide, rfl, Rs.nil _ _ _, Rs.nil _ _ _, Rs.nil _ _ _, rfl, rfl, rfl, by omega, by omega, by omega, by omega, by omega, by omega, by omega, by omega, by omega, fun _ => rfl, fun _ => rfl, fun _ => rfl⟩)
  have HSz := Lib.hid (show sizeN v0 = 0 from rfl)
  have HCs := Lib.hid (show (Tryd.prog.info? 26).map (·.size) = some (#[.int .u8 0, .string ⟨#[]⟩, .slice none 0 0, .slice none 0 0, .slice none 0 0] : Array Value).size from val_size)
  have HOn := Lib.hid (show (#[.int .u8 0, .string ⟨#[]⟩, .slice none 0 0, .slice none 0 0, .slice none 0 0] : Array Value).all (·.oneCell') = true by simp [Value.oneCell'])
  have CS := Lib.hid (rsize 0 ⟨#[]⟩ none 0 0 none 0 0 none 0 0 v0 wt HVI.out)
  rw [HSz.out] at CS
  go_wp2_with (with_reducible refine wpList_load_row rfl 26 (.tmp 3) rfl (w.heap.size + 1 + 1) rfl 26 #[.int .u8 0, .string ⟨#[]⟩, .slice none 0 0, .slice none 0 0, .slice none 0 0] (0, 0) _ HF.out.ou Tryd.underlying26 rfl HCs.out ?_)
  with_reducible refine CS.out.mono ?_
  rintro e w9 ⟨rfl, hb9⟩
  have HF9 := Lib.hid (HF.out.keep hb9)
  have HA1 := Lib.hid (HA.out.1.keep hb9)
  have HA2 := Lib.hid (HA.out.2.1.keep hb9)
  have HA3 := Lib.hid (HA.out.2.2.keep hb9)
  clear hb9 HF HA CS
  have HCs9 := Lib.hid (show (Tryd.prog.info? 26).map (·.size) = some (#[.int .u8 0, .string ⟨#[]⟩, .slice none 0 0, .slice none 0 0, .slice none 0 0] : Array Value).size from val_size)
  have HOn9 := Lib.hid (show (#[.int .u8 0, .string ⟨#[]⟩, .slice none 0 0, .slice none 0 0, .slice none 0 0] : Array Value).all (·.oneCell') = true by simp [Value.oneCell'])
  have HE := Lib.hid (show ValP (fitV d) w _ _ by
    rw [HD.out]
    exact fit_ends (S := ⟨#[]⟩) (k := 0) (d := v0) (base := w.heap.size + 1 + 1) (Nat.lt_succ_self _) HF9.out rfl rfl (ansR_nil strE _ _) (ansR_nil prE _ _) (ansR_nil mkE _ _))
  go_wp2_with (with_reducible refine wpList_store_row rfl 26 (.tmp 2) (.tmp 102) rfl (w.heap.size + 1) #[.int .u8 0, .string ⟨#[]⟩, .slice none 0 0, .slice none 0 0, .slice none 0 0] rfl rfl 26 _ HF9.out.re HCs9.out rfl HOn9.out ?_)
  exact bodyPost_ret (results_cell_row rfl _ _ (w.heap.size + 1) 26 #[.int .u8 0, .string ⟨#[]⟩, .slice none 0 0, .slice none 0 0, .slice none 0 0] (0, 0) _ rfl (setRow_heap _ (w.heap.size + 1) _ _ _ _ HF9.out.re) Tryd.underlying26 rfl HCs9.out) rfl HE.out

set_option maxHeartbeats 8000000 in
theorem rfit_2 (k : Int) (S : ByteArray) (ql : Option Addr) (nl cl : Nat) (qh : Option Addr) (nh ch : Nat) (qz : Option Addr) (nz cz : Nat) (d : V) (w : World) (H : VArg w k S ql nl cl qh nh ch qz nz cz d) (hS : S.size ≤ 140737488351232) (hk : d.kind % 6 = 2) :
    Calls Tryd.prog 8 #[.agg #[.int .u8 k, .string S, .slice ql nl cl, .slice qh nh ch, .slice qz nz cz]] w (ValP (fitV d) w) := by
  have HV := Lib.hid H
  have HK := Lib.hid hk
  have HFB := Lib.hid (FB.new w #[.int .u8 k, .string S, .slice ql nl cl, .slice qh nh ch, .slice qz nz cz] #[.int .u8 0, .string ⟨#[]⟩, .slice none 0 0, .slice none 0 0, .slice none 0 0] #[.int .u8 0, .string ⟨#[]⟩, .slice none 0 0, .slice none 0 0, .slice none 0 0])
  obtain ⟨m, hm⟩ : ∃ m, m = min nl 8 := ⟨_, rfl⟩
  have hmin : min (nl : Int) 8 = (m : Int) := by omega
  have hmc : m ≤ cl := by have := H.bl; omega
  have hml := H.ml
  have hfl := Nat.le_trans H.bl H.ml
  have hfh := Nat.le_trans H.bh H.mh
  have hfz := Nat.le_trans H.bz H.mz
  have x1 : (k % 6 == 1) = false := by rw [H.ek, beq_eq_false_iff_ne]; omega
  have x2 : (k % 6 == 2) = true := by rw [H.ek, beq_iff_eq]; omega
  have x3 : (k % 6 == 3) = false := by rw [H.ek, beq_eq_false_iff_ne]; omega
  have x4 : (k % 6 == 4) = false := by rw [H.ek, beq_eq_false_iff_ne]; omega
  have x5 : (k % 6 == 5) = false := by rw [H.ek, beq_eq_false_iff_ne]; omega
  have hk0 : 0 ≤ k := by rw [H.ek]; omega
  have hk1 : k ≤ 255 := by rw [H.ek]; have := H.kb; omega
  have HM := Lib.hid hm
  have HTl := Lib.hid (show (d.l.take 8).length = m by rw [List.length_take, H.ll, hm]; omega)
  have HNil := Lib.hid H.el
  clear H hm hk
  go_enter Tryd.func8, Tryd.ntmps8
  go_upto_region 7 with fail
  generalize (((w.alloc _).alloc _).alloc _) = w3 at HFB ⊢
  have HO := Lib.hid (ownR_new strE w3.heap.size w3 w3.heap.size rfl (Nat.le_refl _))
  have HBn := Lib.hid (bel_new w3 (.cells #[] strE.ty))
  have HLs := Lib.hid (((HV.out.rl.keep HFB.out.bl).take 8).keep HBn.out)
  have hm8 : m ≤ 8 := by rw [HM.out]; omega
  have hsz3 := HFB.out.sz
  have HLe := Lib.hid (show ([] : List (List UInt8)).length + m ≤ 2097152 by simp; omega)
  go_upto_region 27 with (first
    | (at_builtin; refine wpList_append_rs strE (w0 := w3) rfl (.tmp 31) (.tmp 32) rfl _ [] rfl HO.out HBn.out ql (d.l.take 8) m cl rfl HTl.out HLs.out HNil.out HLe.out (d.l.take 8) rfl ?_
       intro v' w4 hown hb4
       obtain ⟨qo, co, rfl, hR, hge, hc1, hc2, hc3⟩ := hown.ans
       rw [HTl.out] at hc1
       have HF4 := Lib.hid (HFB.out.keep hb4)
       have HA4 := Lib.hid (show AnsR strE w3.heap.size w4 (.slice qo m co) (d.l.take 8) from ⟨qo, co, by rw [HTl.out], hR, hge, by rw [HTl.out]; exact hc1, hc2, hc3⟩)
       rw [HTl.out]
       have HF5 := Lib.hid (show FB w (w4.setCell ⟨w.heap.size + 1 + 1, 2, none⟩ (.slice qo m co)) _ _ #[.int .u8 0, .string ⟨#[]⟩, .slice qo m co, .slice none 0 0, .slice none 0 0] from HF4.out.put 2 (.slice qo m co))
       have c2 : w4.cell? ⟨w.heap.size + 1 + 1, 2, none⟩ = some (.slice none 0 0) := by rw [cell_of_row _ _ _ _ 26 _ HF4.out.ou]; rfl
       have f2 : w4.frozen? ⟨w.heap.size + 1 + 1, 2, none⟩ = false := frozen_of_row _ _ _ _ 26 HF4.out.ou
       have c0 : (w4.setCell ⟨w.heap.size + 1 + 1, 2, none⟩ (.slice qo m co)).cell? ⟨w.heap.size + 1 + 1, 0, none⟩ = some (.int .u8 0) := by rw [cell_of_row _ _ _ _ 26 _ HF5.out.ou]; rfl
       have f0 : (w4.setCell ⟨w.heap.size + 1 + 1, 2, none⟩ (.slice qo m co)).frozen? ⟨w.heap.size + 1 + 1, 0, none⟩ = false := frozen_of_row _ _ _ _ 26 HF5.out.ou
       have HF6 := Lib.hid (show FB w ((w4.setCell ⟨w.heap.size + 1 + 1, 2, none⟩ (.slice qo m co)).setCell ⟨w.heap.size + 1 + 1, 0, none⟩ (.int .u8 2)) _ _ #[.int .u8 2, .string ⟨#[]⟩, .slice qo m co, .slice none 0 0, .slice none 0 0] from HF5.out.put 0 (.int .u8 2))
       have HA6 := Lib.hid (show AnsR strE (w.heap.size + 1 + 1 + 1) ((w4.setCell ⟨w.heap.size + 1 + 1, 2, none⟩ (.slice qo m co)).setCell ⟨w.heap.size + 1 + 1, 0, none⟩ (.int .u8 2)) (.slice qo m co) (d.l.take 8) from (ansR_put (ansR_put HA4.out (by show w.heap.size + 1 + 1 < _; exact hsz3)) (by show w.heap.size + 1 + 1 < _; exact hsz3)).low hsz3)
       clear hown hb4 hR hge HF4 HA4 HF5))
  clear c0 c2 f0 f2
  generalize ((w4.setCell _ _).setCell _ _) = wt at HF6 HA6 ⊢
  have HF := HF6
  have HA := Lib.hid (⟨HA6.out, ansR_nil prE (w.heap.size + 1 + 1 + 1) wt, ansR_nil mkE (w.heap.size + 1 + 1 + 1) wt⟩ : AnsR strE (w.heap.size + 1 + 1 + 1) wt (.slice qo m co) (d.l.take 8) ∧ AnsR prE (w.heap.size + 1 + 1 + 1) wt (.slice none 0 0) [] ∧ AnsR mkE (w.heap.size + 1 + 1 + 1) wt (.slice none 0 0) [])
  have HVI := Lib.hid (show VIn wt 2 ⟨#[]⟩ qo m co none 0 0 none 0 0 ⟨2, [], d.l.take 8, [], []⟩ from by
    obtain ⟨q1, c1, e, hR, -⟩ := HA6.out
    injection e with e1 e2 e3
    subst e1 e3
    exact ⟨rfl, by show (_ : Nat) ≤ 255; simp, rfl, hR, Rs.nil _ _ _, Rs.nil _ _ _, HTl.out, rfl, rfl, by omega, by omega, by omega, hc1, by omega, by omega, hc2, by omega, by omega, hc3, fun _ => rfl, fun _ => rfl⟩)
  have HSz := Lib.hid (show sizeN ⟨2, [], d.l.take 8, [], []⟩ = m from HTl.out)
  clear HF6 HA6
  by_cases h0 : m = 0
  · have hlz : d.l = [] := by
      have h1 := HM.out
      have h2 := HV.out.ll
      exact List.eq_nil_of_length_eq_zero (by omega)
    have HD := Lib.hid (show fitV d = v0 by unfold fitV; rw [if_neg (by have := HK.out; omega), if_pos HK.out, if_pos hlz])
    clear hlz
    have t0 : ((m : Int) == 0) = true := by rw [beq_iff_eq]; omega
    clear h0
    have HCs := Lib.hid (show (Tryd.prog.info? 26).map (·.size) = some (#[.int .u8 2, .string ⟨#[]⟩, .slice qo m co, .slice none 0 0, .slice none 0 0] : Array Value).size from val_size)
    have HOn := Lib.hid (show (#[.int .u8 2, .string ⟨#[]⟩, .slice qo m co, .slice none 0 0, .slice none 0 0] : Array Value).all (·.oneCell') = true by simp [Value.oneCell'])
    have CS := Lib.hid (rsize 2 ⟨#[]⟩ qo m co none 0 0 none 0 0 ⟨2, [], d.l.take 8, [], []⟩ wt HVI.out)
    rw [HSz.out] at CS
    go_wp2_with (with_reducible refine wpList_load_row rfl 26 (.tmp 3) rfl (w.heap.size + 1 + 1) rfl 26 #[.int .u8 2, .string ⟨#[]⟩, .slice qo m co, .slice none 0 0, .slice none 0 0] (0, 0) _ HF.out.ou Tryd.underlying26 rfl HCs.out ?_)
    with_reducible refine CS.out.mono ?_
    rintro e w9 ⟨rfl, hb9⟩
    have HF9 := Lib.hid (HF.out.keep hb9)
    have HA1 := Lib.hid (HA.out.1.keep hb9)
    have HA2 := Lib.hid (HA.out.2.1.keep hb9)
    have HA3 := Lib.hid (HA.out.2.2.keep hb9)
    clear hb9 HF HA CS
    have HCs9 := Lib.hid (show (Tryd.prog.info? 26).map (·.size) = some (#[.int .u8 0, .string ⟨#[]⟩, .slice none 0 0, .slice none 0 0, .slice none 0 0] : Array Value).size from val_size)
    have HOn9 := Lib.hid (show (#[.int .u8 0, .string ⟨#[]⟩, .slice none 0 0, .slice none 0 0, .slice none 0 0] : Array Value).all (·.oneCell') = true by simp [Value.oneCell'])
    have HE := Lib.hid (show ValP (fitV d) w _ _ by
      rw [HD.out]
      exact fit_ends (S := ⟨#[]⟩) (k := 0) (d := v0) (base := w.heap.size + 1 + 1) (Nat.lt_succ_self _) HF9.out rfl rfl (ansR_nil strE _ _) (ansR_nil prE _ _) (ansR_nil mkE _ _))
    go_wp2_with (with_reducible refine wpList_store_row rfl 26 (.tmp 2) (.tmp 102) rfl (w.heap.size + 1) #[.int .u8 0, .string ⟨#[]⟩, .slice none 0 0, .slice none 0 0, .slice none 0 0] rfl rfl 26 _ HF9.out.re HCs9.out rfl HOn9.out ?_)
    exact bodyPost_ret (results_cell_row rfl _ _ (w.heap.size + 1) 26 #[.int .u8 0, .string ⟨#[]⟩, .slice none 0 0, .slice none 0 0, .slice none 0 0] (0, 0) _ rfl (setRow_heap _ (w.heap.size + 1) _ _ _ _ HF9.out.re) Tryd.underlying26 rfl HCs9.out) rfl HE.out
  · have hlz : d.l ≠ [] := fun h => h0 (by
      have h1 := HM.out
      have h2 := HV.out.ll
      rw [h] at h2
      simp at h2
      omega)
    have HD := Lib.hid (show fitV d = ⟨2, [], d.l.take 8, [], []⟩ by unfold fitV; rw [if_neg (by have := HK.out; omega), if_pos HK.out, if_neg hlz])
    clear hlz
    have t0 : ((m : Int) == 0) = false := by rw [beq_eq_false_iff_ne]; omega
    have HCs := Lib.hid (show (Tryd.prog.info? 26).map (·.size) = some (#[.int .u8 2, .string ⟨#[]⟩, .slice qo m co, .slice none 0 0, .slice none 0 0] : Array Value).size from val_size)
    have HOn := Lib.hid (show (#[.int .u8 2, .string ⟨#[]⟩, .slice qo m co, .slice none 0 0, .slice none 0 0] : Array Value).all (·.oneCell') = true by simp [Value.oneCell'])
    have CS := Lib.hid (rsize 2 ⟨#[]⟩ qo m co none 0 0 none 0 0 ⟨2, [], d.l.take 8, [], []⟩ wt HVI.out)
    rw [HSz.out] at CS
    go_wp2_with (with_reducible refine wpList_load_row rfl 26 (.tmp 3) rfl (w.heap.size + 1 + 1) rfl 26 #[.int .u8 2, .string ⟨#[]⟩, .slice qo m co, .slice none 0 0, .slice none 0 0] (0, 0) _ HF.out.ou Tryd.underlying26 rfl HCs.out ?_)
    with_reducible refine CS.out.mono ?_
    rintro e w9 ⟨rfl, hb9⟩
    have HF9 := Lib.hid (HF.out.keep hb9)
    have HA1 := Lib.hid (HA.out.1.keep hb9)
    have HA2 := Lib.hid (HA.out.2.1.keep hb9)
    have HA3 := Lib.hid (HA.out.2.2.keep hb9)
    clear hb9 HF HA CS
    have HCs9 := HCs
    have HOn9 := HOn
    have HE := Lib.hid (show ValP (fitV d) w _ _ by
      rw [HD.out]
      exact fit_ends (S := ⟨#[]⟩) (k := 2) (d := ⟨2, [], d.l.take 8, [], []⟩) (base := w.heap.size + 1 + 1 + 1) (by omega) HF9.out rfl rfl HA1.out HA2.out HA3.out)
    go_wp2_with (first
      | (with_reducible refine wpList_load_row rfl 26 (.tmp 3) rfl (w.heap.size + 1 + 1) rfl 26 #[.int .u8 2, .string ⟨#[]⟩, .slice qo m co, .slice none 0 0, .slice none 0 0] (0, 0) _ HF9.out.ou Tryd.underlying26 rfl HCs.out ?_)
      | (with_reducible refine wpList_store_row rfl 26 (.tmp 2) (.tmp 103) rfl (w.heap.size + 1) #[.int .u8 2, .string ⟨#[]⟩, .slice qo m co, .slice none 0 0, .slice none 0 0] rfl rfl 26 _ HF9.out.re HCs9.out rfl HOn9.out ?_))
    exact bodyPost_ret (results_cell_row rfl _ _ (w.heap.size + 1) 26 #[.int .u8 2, .string ⟨#[]⟩, .slice qo m co, .slice none 0 0, .slice none 0 0] (0, 0) _ rfl (setRow_heap _ (w.heap.size + 1) _ _ _ _ HF9.out.re) Tryd.underlying26 rfl HCs9.out) rfl HE.out

end Go.Proofs.YtodpocciimbjbaaDoor.RefV
namespace Go.Proofs.YtodpocciimbjbaaDoor.RefV
open Go.RowKit Kit StrT RowG BOrd ValT
open Go.Op (bytesLess)
set_option linter.unusedVariables false
set_option maxRecDepth 100000

theorem putL_len {l : List (List UInt8)} (s : List UInt8) (h : rises l) : (putL l s).length ≤ l.length + 1 := by
  obtain ⟨l1, l2, e, -, -, a3⟩ := putL_shape s h
  rw [a3, e]
  have := List.length_filter_le (fun x => decide (x ≠ s)) l2
  simp only [List.length_append, List.length_cons, List.length_nil]
  omega
theorem putP_len {l : List Pr} (s : Pr) (h : rises (names l)) : (putP l s).length ≤ l.length + 1 := by
  have h1 := putL_len s.name h
  rw [← putP_names] at h1
  simpa [names] using h1
theorem putM_len {l : List Mk} (m : Mk) (h : marks l) : (putM l m).length ≤ l.length + 1 := by
  obtain ⟨l1, l2, e, -, -, a3⟩ := putMS_false m l [] h
  have e3 : putM l m = l1.filter (fun x => decide (x.name ≠ m.name)) ++ [m] ++ l2.filter (fun x => decide (x.name ≠ m.name)) := by
    unfold putM
    rw [a3]
    simp
  rw [e3, e]
  have h1 := List.length_filter_le (fun x : Mk => decide (x.name ≠ m.name)) l1
  have h2 := List.length_filter_le (fun x : Mk => decide (x.name ≠ m.name)) l2
  simp only [List.length_append, List.length_cons, List.length_nil]
  omega
theorem putP_inv {l : List Pr} (s : Pr) (h : rises (names l)) : rises (names (putP l s)) := by
  rw [putP_names]
  exact putL_rises _ h

set_option maxHeartbeats 8000000 in
theorem rfit_4 (k : Int) (S : ByteArray) (ql : Option Addr) (nl cl : Nat) (qh : Option Addr) (nh ch : Nat) (qz : Option Addr) (nz cz : Nat) (d : V) (w : World) (H : VArg w k S ql nl cl qh nh ch qz nz cz d) (hS : S.size ≤ 140737488351232) (hk : d.kind % 6 = 4) :
    Calls Tryd.prog 8 #[.agg #[.int .u8 k, .string S, .slice ql nl cl, .slice qh nh ch, .slice qz nz cz]] w (ValP (fitV d) w) := by
  have HV := Lib.hid H
  have HK := Lib.hid hk
  have HFB := Lib.hid (FB.new w #[.int .u8 k, .string S, .slice ql nl cl, .slice qh nh ch, .slice qz nz cz] #[.int .u8 0, .string ⟨#[]⟩, .slice none 0 0, .slice none 0 0, .slice none 0 0] #[.int .u8 0, .string ⟨#[]⟩, .slice none 0 0, .slice none 0 0, .slice none 0 0])
  obtain ⟨m, hm⟩ : ∃ m, m = min nl 8 := ⟨_, rfl⟩
  have hmin : min (nl : Int) 8 = (m : Int) := by omega
  have hmc : m ≤ cl := by have := H.bl; omega
  have hml := H.ml
  have hfl := Nat.le_trans H.bl H.ml
  have hfh := Nat.le_trans H.bh H.mh
  have hfz := Nat.le_trans H.bz H.mz
  have x1 : (k % 6 == 1) = false := by rw [H.ek, beq_eq_false_iff_ne]; omega
  have x2 : (k % 6 == 2) = false := by rw [H.ek, beq_eq_false_iff_ne]; omega
  have x3 : (k % 6 == 3) = false := by rw [H.ek, beq_eq_false_iff_ne]; omega
  have x4 : (k % 6 == 4) = true := by rw [H.ek, beq_iff_eq]; omega
  have x5 : (k % 6 == 5) = false := by rw [H.ek, beq_eq_false_iff_ne]; omega
  have hk0 : 0 ≤ k := by rw [H.ek]; omega
  have hk1 : k ≤ 255 := by rw [H.ek]; have := H.kb; omega
  have HM := Lib.hid hm
  obtain ⟨M, hM8⟩ : ∃ M, M = min nl 8 := ⟨_, rfl⟩
  have HTl := Lib.hid (show (d.l.take 8).length = M by rw [List.length_take, H.ll, hM8]; omega)
  have hM9 : M ≤ 8 := by omega
  obtain rfl : M = m := by omega
  have HNz := Lib.hid (show d.l = [] ↔ M = 0 by
    have h1 := H.ll
    constructor
    · intro h
      rw [h] at h1
      simp at h1
      omega
    · intro h
      exact List.eq_nil_of_length_eq_zero (by omega))
  have HSt := Lib.hid (fun k (h : k < (d.l.take 8).length) => fold_take putL [] (d.l.take 8) k h)
  clear H hm hk hM8
  go_enter Tryd.func8, Tryd.ntmps8
  go_upto_region 10 with fail
  generalize (((w.alloc _).alloc _).alloc _) = w3 at HFB ⊢
  go_wp2_with fail
  go_loopw [5] (fun i wr => ∃ (k9 no co : Nat) (o : List (List UInt8)) (qo : Option Addr), k9 ≤ M ∧ i = .int .i64 k9 ∧ no ≤ k9 ∧ Hid (List.foldl putL [] ((d.l.take 8).take k9) = o) ∧ Hid (rises o) ∧ Hid (o.length = no) ∧ Hid (FB w wr #[.int .u8 k, .string S, .slice ql nl cl, .slice qh nh ch, .slice qz nz cz] #[.int .u8 0, .string ⟨#[]⟩, .slice none 0 0, .slice none 0 0, .slice none 0 0] #[.int .u8 0, .string ⟨#[]⟩, .slice qo no co, .slice none 0 0, .slice none 0 0]) ∧ Hid (AnsR strE (w.heap.size + 1 + 1 + 1) wr (.slice qo no co) o)) (fun i _ => M - (intOf i).toNat)
  case atStart => exact ⟨0, 0, 0, [], none, Nat.zero_le _, rfl, Nat.le_refl _, Lib.hid rfl, Lib.hid List.Pairwise.nil, Lib.hid rfl, HFB, Lib.hid (ansR_nil strE _ _)⟩
  case round =>
    clear HFB
    obtain ⟨k9, no, co, o, qo, hk9, rfl, hno, HFo, HIn, HNo, HF, HAo⟩ := hrel
    by_cases hlt : k9 < M
    · have hk90 : (0 : Int) ≤ (k9 : Int) := by omega
      have d1 : decide ((k9 : Int) < (M : Int)) = true := decide_eq_true (by omega)
      have hkn : (k9 : Int) < (M : Int) := by omega
      obtain ⟨b, off, e1, hbl, u0⟩ := ss_at (rs_ss.1 ((HV.out.rl.keep HF.out.bl).take 8)) k9 (by rw [HTl.out]; exact hlt)
      have HStk := Lib.hid (HSt.out k9 (by rw [HTl.out]; exact hlt))
      rw [HFo.out] at HStk
      obtain ⟨t, ht⟩ : ∃ t, t = (d.l.take 8)[k9]'(by rw [HTl.out]; exact hlt) := ⟨_, rfl⟩
      rw [← ht] at HStk u0
      subst e1
      obtain ⟨T, hT⟩ : ∃ T : ByteArray, T = ⟨t.toArray⟩ := ⟨_, rfl⟩
      rw [← hT] at u0
      have hz9 : no ≤ 500000 := Nat.le_trans (Nat.le_trans hno hk9) (Nat.le_trans hM9 (by decide))
      have CP := Lib.hid (show Calls Tryd.prog 19 #[.slice qo no co, .string T] wr.drew (TextsA (putL o t) wr.drew) from by
        obtain ⟨q1, c1, e, hR, -⟩ := HAo.out
        injection e with e1 e2 e3
        rw [← e1] at hR
        clear e1 e2 e3
        exact rput qo o no co T t wr.drew HNo.out (rs_ss.1 (hR.keep (Below.refl wr.heap.size wr).drew)) hz9 (by rw [hT]))
      clear hT ht hbl
      have HIs := Lib.hid ((putL_rises) t HIn.out)
      have HLs := Lib.hid (putL_len t HIn.out)
      have c2 : wr.cell? ⟨w.heap.size + 1 + 1, 2, none⟩ = some (.slice qo no co) := by rw [cell_of_row _ _ _ _ 26 _ HF.out.ou]; rfl
      have x2 : wr.cell? ⟨w.heap.size, 2, none⟩ = some (.slice (some ⟨b, off, none⟩) nl cl) := by rw [cell_of_row _ _ _ _ 26 _ HF.out.bx]; rfl
      go_wp2_with fail
      go_region_law (first
        | (go_simp; (with_reducible refine CP.out.mono ?_); rintro e w5 ⟨v, rfl, ⟨qv, cv, rfl, hR⟩, hb5⟩; dsimp only
           have hb6 : Below wr.heap.size wr w5 := (Below.refl wr.heap.size wr).drew.trans hb5
           have HF5 := Lib.hid (HF.out.keep hb6)
           generalize hn5 : (putL o t).length = n5 at ⊢
           have HN5 := Lib.hid hn5
           have HA5 := Lib.hid (show AnsR strE (w.heap.size + 1 + 1 + 1) w5 (.slice qv n5 cv) (putL o t) from (show AnsR strE wr.drew.heap.size w5 (.slice qv n5 cv) (putL o t) from ⟨qv, cv, by rw [hn5], hR⟩).low (by have := HF.out.sz; show w.heap.size + 1 + 1 + 1 ≤ wr.heap.size; omega))
           clear hn5
           have y2 : w5.cell? ⟨w.heap.size + 1 + 1, 2, none⟩ = some (.slice qo no co) := by rw [cell_of_row _ _ _ _ 26 _ HF5.out.ou]; rfl
           have g2 : w5.frozen? ⟨w.heap.size + 1 + 1, 2, none⟩ = false := frozen_of_row _ _ _ _ 26 HF5.out.ou
           clear hR hb5 hb6))
      all_goals
        have HF6 := Lib.hid (show FB w (w5.setCell ⟨w.heap.size + 1 + 1, 2, none⟩ (.slice qv n5 cv)) _ _ #[.int .u8 0, .string ⟨#[]⟩, .slice qv n5 cv, .slice none 0 0, .slice none 0 0] from HF5.out.put 2 (.slice qv n5 cv))
        have HA6 := Lib.hid (show AnsR strE (w.heap.size + 1 + 1 + 1) (w5.setCell ⟨w.heap.size + 1 + 1, 2, none⟩ (.slice qv n5 cv)) (.slice qv n5 cv) (putL o t) from ansR_put HA5.out (by show w.heap.size + 1 + 1 < _; omega))
        have hn6 : n5 ≤ k9 + 1 := by have h1 := HN5.out; have h2 := HLs.out; have h3 := HNo.out; omega
        clear y2 g2 HF5 HA5 c2 x2 u0 CP HF HAo
        go_wp2_with fail
        go_roundw
        case rel => exact ⟨k9 + 1, n5, cv, _, qv, hlt, by go_num, hn6, HStk, HIs, HN5, HF6, HA6⟩
        case measure => simp [intOf]; omega
    · have HFe := Lib.hid (show fitL d.l = o by
        have h := HFo.out
        rw [List.take_of_length_le (by rw [HTl.out]; omega)] at h
        exact h)
      have c0 : wr.cell? ⟨w.heap.size + 1 + 1, 0, none⟩ = some (.int .u8 0) := by rw [cell_of_row _ _ _ _ 26 _ HF.out.ou]; rfl
      have f0 : wr.frozen? ⟨w.heap.size + 1 + 1, 0, none⟩ = false := frozen_of_row _ _ _ _ 26 HF.out.ou
      have z2 : wr.cell? ⟨w.heap.size, 2, none⟩ = some (.slice ql nl cl) := by rw [cell_of_row _ _ _ _ 26 _ HF.out.bx]; rfl
      have HFt := Lib.hid (show FB w (wr.setCell ⟨w.heap.size + 1 + 1, 0, none⟩ (.int .u8 4)) _ _ #[.int .u8 4, .string ⟨#[]⟩, .slice qo no co, .slice none 0 0, .slice none 0 0] from HF.out.put 0 (.int .u8 4))
      have HAt := Lib.hid (show AnsR strE (w.heap.size + 1 + 1 + 1) (wr.setCell ⟨w.heap.size + 1 + 1, 0, none⟩ (.int .u8 4)) (.slice qo no co) o from ansR_put HAo.out (by show w.heap.size + 1 + 1 < _; omega))
      have HZr := Lib.hid (show no = 0 ↔ d.l = [] by
        have h1 := HNo.out
        have h2 := HFe.out
        constructor
        · intro h
          refine Classical.byContradiction fun hne => ?_
          have h3 := (foldL_rises (d.l.take 8) [] List.Pairwise.nil).2 (Or.inl (take8_ne hne))
          apply h3
          show fitL d.l = []
          rw [h2]
          exact List.eq_nil_of_length_eq_zero (by omega)
        · intro h
          rw [h] at h2
          rw [← h1, ← h2]
          rfl)
      have d1 : decide ((k9 : Int) < (M : Int)) = false := decide_eq_false (by omega)
      clear HFo HIn HF HAo HSt
      go_upto_region 27 with fail
      generalize (wr.setCell _ _) = wt at HFt HAt ⊢
      have HF := HFt
      have HA := Lib.hid (⟨HAt.out, ansR_nil prE _ wt, ansR_nil mkE _ wt⟩ : AnsR strE (w.heap.size + 1 + 1 + 1) wt (.slice qo no co) o ∧ AnsR prE (w.heap.size + 1 + 1 + 1) wt (.slice none 0 0) [] ∧ AnsR mkE (w.heap.size + 1 + 1 + 1) wt (.slice none 0 0) [])
      have HVI := Lib.hid (show VIn wt 4 ⟨#[]⟩ qo no co none 0 0 none 0 0 ⟨4, [], o, [], []⟩ from by
        obtain ⟨q1, c1, e, hR, -, hc1, hc2, hc3⟩ := HAt.out
        injection e with e1 e2 e3
        subst e1 e3
        have hnl := HNo.out
        exact ⟨rfl, by show (_ : Nat) ≤ 255; simp, rfl, hR, Rs.nil _ _ _, Rs.nil _ _ _, hnl, rfl, rfl, by omega, by omega, by omega, by omega, by omega, by omega, hc2, by omega, by omega, hc3, fun _ => rfl, fun _ => rfl⟩)
      have HSz := Lib.hid (show sizeN ⟨4, [], o, [], []⟩ = no from HNo.out)
      clear HFt HAt
      by_cases h0 : no = 0
      · have HD := Lib.hid (show fitV d = v0 by unfold fitV; simp [HK.out, HZr.out.1 h0])
        have t0 : ((no : Int) == 0) = true := by rw [beq_iff_eq]; omega
        clear h0
        have HCs := Lib.hid (show (Tryd.prog.info? 26).map (·.size) = some (#[.int .u8 4, .string ⟨#[]⟩, .slice qo no co, .slice none 0 0, .slice none 0 0] : Array Value).size from val_size)
        have HOn := Lib.hid (show (#[.int .u8 4, .string ⟨#[]⟩, .slice qo no co, .slice none 0 0, .slice none 0 0] : Array Value).all (·.oneCell') = true by simp [Value.oneCell'])
        have CS := Lib.hid (rsize 4 ⟨#[]⟩ qo no co none 0 0 none 0 0 ⟨4, [], o, [], []⟩ wt HVI.out)
        rw [HSz.out] at CS
        go_wp2_with (with_reducible refine wpList_load_row rfl 26 (.tmp 3) rfl (w.heap.size + 1 + 1) rfl 26 #[.int .u8 4, .string ⟨#[]⟩, .slice qo no co, .slice none 0 0, .slice none 0 0] (0, 0) _ HF.out.ou Tryd.underlying26 rfl HCs.out ?_)
        with_reducible refine CS.out.mono ?_
        rintro e w9 ⟨rfl, hb9⟩
        have HF9 := Lib.hid (HF.out.keep hb9)
        have HA1 := Lib.hid (HA.out.1.keep hb9)
        have HA2 := Lib.hid (HA.out.2.1.keep hb9)
        have HA3 := Lib.hid (HA.out.2.2.keep hb9)
        clear hb9 HF HA CS
        have HCs9 := Lib.hid (show (Tryd.prog.info? 26).map (·.size) = some (#[.int .u8 0, .string ⟨#[]⟩, .slice none 0 0, .slice none 0 0, .slice none 0 0] : Array Value).size from val_size)
        have HOn9 := Lib.hid (show (#[.int .u8 0, .string ⟨#[]⟩, .slice none 0 0, .slice none 0 0, .slice none 0 0] : Array Value).all (·.oneCell') = true by simp [Value.oneCell'])
        have HE := Lib.hid (show ValP (fitV d) w _ _ by
          rw [HD.out]
          exact fit_ends (S := ⟨#[]⟩) (k := 0) (d := v0) (base := w.heap.size + 1 + 1) (Nat.lt_succ_self _) HF9.out rfl rfl (ansR_nil strE _ _) (ansR_nil prE _ _) (ansR_nil mkE _ _))
        go_wp2_with (with_reducible refine wpList_store_row rfl 26 (.tmp 2) (.tmp 102) rfl (w.heap.size + 1) #[.int .u8 0, .string ⟨#[]⟩, .slice none 0 0, .slice none 0 0, .slice none 0 0] rfl rfl 26 _ HF9.out.re HCs9.out rfl HOn9.out ?_)
        exact bodyPost_ret (results_cell_row rfl _ _ (w.heap.size + 1) 26 #[.int .u8 0, .string ⟨#[]⟩, .slice none 0 0, .slice none 0 0, .slice none 0 0] (0, 0) _ rfl (setRow_heap _ (w.heap.size + 1) _ _ _ _ HF9.out.re) Tryd.underlying26 rfl HCs9.out) rfl HE.out
      · have HD := Lib.hid (show fitV d = ⟨4, [], o, [], []⟩ by
          unfold fitV
          have hne : d.l ≠ [] := fun h => h0 (HZr.out.2 h)
          rw [← HFe.out]
          simp [HK.out, hne])
        have t0 : ((no : Int) == 0) = false := by rw [beq_eq_false_iff_ne]; omega
        have HCs := Lib.hid (show (Tryd.prog.info? 26).map (·.size) = some (#[.int .u8 4, .string ⟨#[]⟩, .slice qo no co, .slice none 0 0, .slice none 0 0] : Array Value).size from val_size)
        have HOn := Lib.hid (show (#[.int .u8 4, .string ⟨#[]⟩, .slice qo no co, .slice none 0 0, .slice none 0 0] : Array Value).all (·.oneCell') = true by simp [Value.oneCell'])
        have CS := Lib.hid (rsize 4 ⟨#[]⟩ qo no co none 0 0 none 0 0 ⟨4, [], o, [], []⟩ wt HVI.out)
        rw [HSz.out] at CS
        go_wp2_with (with_reducible refine wpList_load_row rfl 26 (.tmp 3) rfl (w.heap.size + 1 + 1) rfl 26 #[.int .u8 4, .string ⟨#[]⟩, .slice qo no co, .slice none 0 0, .slice none 0 0] (0, 0) _ HF.out.ou Tryd.underlying26 rfl HCs.out ?_)
        with_reducible refine CS.out.mono ?_
        rintro e w9 ⟨rfl, hb9⟩
        have HF9 := Lib.hid (HF.out.keep hb9)
        have HA1 := Lib.hid (HA.out.1.keep hb9)
        have HA2 := Lib.hid (HA.out.2.1.keep hb9)
        have HA3 := Lib.hid (HA.out.2.2.keep hb9)
        clear hb9 HF HA CS
        have HCs9 := HCs
        have HOn9 := HOn
        have HE := Lib.hid (show ValP (fitV d) w _ _ by
          rw [HD.out]
          exact fit_ends (S := ⟨#[]⟩) (k := 4) (d := ⟨4, [], o, [], []⟩) (base := w.heap.size + 1 + 1 + 1) (by omega) HF9.out rfl rfl HA1.out HA2.out HA3.out)
        go_wp2_with (first
          | (with_reducible refine wpList_load_row rfl 26 (.tmp 3) rfl (w.heap.size + 1 + 1) rfl 26 #[.int .u8 4, .string ⟨#[]⟩, .slice qo no co, .slice none 0 0, .slice none 0 0] (0, 0) _ HF9.out.ou Tryd.underlying26 rfl HCs.out ?_)
          | (with_reducible refine wpList_store_row rfl 26 (.tmp 2) (.tmp 103) rfl (w.heap.size + 1) #[.int .u8 4, .string ⟨#[]⟩, .slice qo no co, .slice none 0 0, .slice none 0 0] rfl rfl 26 _ HF9.out.re HCs9.out rfl HOn9.out ?_))
        exact bodyPost_ret (results_cell_row rfl _ _ (w.heap.size + 1) 26 #[.int .u8 4, .string ⟨#[]⟩, .slice qo no co, .slice none 0 0, .slice none 0 0] (0, 0) _ rfl (setRow_heap _ (w.heap.size + 1) _ _ _ _ HF9.out.re) Tryd.underlying26 rfl HCs9.out) rfl HE.out

end Go.Proofs.YtodpocciimbjbaaDoor.RefV
namespace Go.Proofs.YtodpocciimbjbaaDoor.RefV
open Go.RowKit Kit StrT RowG BOrd ValT
open Go.Op (bytesLess)
set_option linter.unusedVariables false
set_option maxRecDepth 100000

set_option maxHeartbeats 8000000 in
theorem rfit_3 (k : Int) (S : ByteArray) (ql : Option Addr) (nl cl : Nat) (qh : Option Addr) (nh ch : Nat) (qz : Option Addr) (nz cz : Nat) (d : V) (w : World) (H : VArg w k S ql nl cl qh nh ch qz nz cz d) (hS : S.size ≤ 140737488351232) (hk : d.kind % 6 = 3) :
    Calls Tryd.prog 8 #[.agg #[.int .u8 k, .string S, .slice ql nl cl, .slice qh nh ch, .slice qz nz cz]] w (ValP (fitV d) w) := by
  have HV := Lib.hid H
  have HK := Lib.hid hk
  have HFB := Lib.hid (FB.new w #[.int .u8 k, .string S, .slice ql nl cl, .slice qh nh ch, .slice qz nz cz] #[.int .u8 0, .string ⟨#[]⟩, .slice none 0 0, .slice none 0 0, .slice none 0 0] #[.int .u8 0, .string ⟨#[]⟩, .slice none 0 0, .slice none 0 0, .slice none 0 0])
  obtain ⟨m, hm⟩ : ∃ m, m = min nl 8 := ⟨_, rfl⟩
  have hmin : min (nl : Int) 8 = (m : Int) := by omega
  have hmc : m ≤ cl := by have := H.bl; omega
  have hml := H.ml
  have hfl := Nat.le_trans H.bl H.ml
  have hfh := Nat.le_trans H.bh H.mh
  have hfz := Nat.le_trans H.bz H.mz
  have x1 : (k % 6 == 1) = false := by rw [H.ek, beq_eq_false_iff_ne]; omega
  have x2 : (k % 6 == 2) = false := by rw [H.ek, beq_eq_false_iff_ne]; omega
  have x3 : (k % 6 == 3) = true := by rw [H.ek, beq_iff_eq]; omega
  have x4 : (k % 6 == 4) = false := by rw [H.ek, beq_eq_false_iff_ne]; omega
  have x5 : (k % 6 == 5) = false := by rw [H.ek, beq_eq_false_iff_ne]; omega
  have hk0 : 0 ≤ k := by rw [H.ek]; omega
  have hk1 : k ≤ 255 := by rw [H.ek]; have := H.kb; omega
  have HM := Lib.hid hm
  obtain ⟨M, hM8⟩ : ∃ M, M = min nh 8 := ⟨_, rfl⟩
  have HTl := Lib.hid (show (d.h.take 8).length = M by rw [List.length_take, H.lh, hM8]; omega)
  have hM9 : M ≤ 8 := by omega
  have HMn := Lib.hid (show M = min nh 8 from hM8)
  have HNz := Lib.hid (show d.h = [] ↔ M = 0 by
    have h1 := H.lh
    constructor
    · intro h
      rw [h] at h1
      simp at h1
      omega
    · intro h
      exact List.eq_nil_of_length_eq_zero (by omega))
  have HSt := Lib.hid (fun k (h : k < (d.h.take 8).length) => fold_take putP [] (d.h.take 8) k h)
  clear H hm hk hM8
  go_enter Tryd.func8, Tryd.ntmps8
  go_upto_region 16 with fail
  generalize (((w.alloc _).alloc _).alloc _) = w3 at HFB ⊢
  go_wp2_with fail
  go_loopw [6] (fun i wr => ∃ (k9 no co : Nat) (o : List (Pr)) (qo : Option Addr), k9 ≤ M ∧ i = .int .i64 k9 ∧ no ≤ k9 ∧ Hid (List.foldl putP [] ((d.h.take 8).take k9) = o) ∧ Hid (rises (names o)) ∧ Hid (o.length = no) ∧ Hid (FB w wr #[.int .u8 k, .string S, .slice ql nl cl, .slice qh nh ch, .slice qz nz cz] #[.int .u8 0, .string ⟨#[]⟩, .slice none 0 0, .slice none 0 0, .slice none 0 0] #[.int .u8 0, .string ⟨#[]⟩, .slice none 0 0, .slice qo no co, .slice none 0 0]) ∧ Hid (AnsR prE (w.heap.size + 1 + 1 + 1) wr (.slice qo no co) o)) (fun i _ => M - (intOf i).toNat)
  case atStart => exact ⟨0, 0, 0, [], none, Nat.zero_le _, rfl, Nat.le_refl _, Lib.hid rfl, Lib.hid List.Pairwise.nil, Lib.hid rfl, HFB, Lib.hid (ansR_nil prE _ _)⟩
  case round =>
    clear HFB
    obtain ⟨k9, no, co, o, qo, hk9, rfl, hno, HFo, HIn, HNo, HF, HAo⟩ := hrel
    by_cases hlt : k9 < M
    · have hk90 : (0 : Int) ≤ (k9 : Int) := by omega
      have d1 : decide ((k9 : Int) < (nh : Int)) = true := decide_eq_true (by have := HMn.out; omega)
      have d2 : decide ((k9 : Int) < 8) = true := decide_eq_true (by omega)
      have hkn : (k9 : Int) < (nh : Int) := by have := HMn.out; omega
      obtain ⟨b, off, e1, hbl, u0, u1⟩ := pair_cells ((HV.out.rh.keep HF.out.bl).take 8) k9 (by rw [HTl.out]; exact hlt)
      have HStk := Lib.hid (HSt.out k9 (by rw [HTl.out]; exact hlt))
      rw [HFo.out] at HStk
      obtain ⟨t, ht⟩ : ∃ t, t = (d.h.take 8)[k9]'(by rw [HTl.out]; exact hlt) := ⟨_, rfl⟩
      rw [← ht] at HStk u0 u1
      subst e1
      obtain ⟨tn, tv⟩ := t
      simp only at u0 u1
      obtain ⟨T, hT⟩ : ∃ T : ByteArray, T = ⟨tn.toArray⟩ := ⟨_, rfl⟩
      obtain ⟨T2, hT2⟩ : ∃ T : ByteArray, T = ⟨tv.toArray⟩ := ⟨_, rfl⟩
      rw [← hT] at u0
      rw [← hT2] at u1
      have hz9 : no ≤ 500000 := Nat.le_trans (Nat.le_trans hno hk9) (Nat.le_trans hM9 (by decide))
      have CP := Lib.hid (show Calls Tryd.prog 21 #[.slice qo no co, .agg #[.string T, .string T2]] wr.drew (PairsA (putP o ⟨tn, tv⟩) wr.drew) from by
        obtain ⟨q1, c1, e, hR, -⟩ := HAo.out
        injection e with e1 e2 e3
        rw [← e1] at hR
        clear e1 e2 e3
        exact rputp qo o no co T T2 ⟨tn, tv⟩ wr.drew HNo.out (hR.keep (Below.refl wr.heap.size wr).drew) hz9 (by rw [hT]) (by rw [hT2]))
      clear hT hT2 ht hbl
      have HIs := Lib.hid ((putP_inv) ⟨tn, tv⟩ HIn.out)
      have HLs := Lib.hid (putP_len ⟨tn, tv⟩ HIn.out)
      have c3 : wr.cell? ⟨w.heap.size + 1 + 1, 3, none⟩ = some (.slice qo no co) := by rw [cell_of_row _ _ _ _ 26 _ HF.out.ou]; rfl
      have x3 : wr.cell? ⟨w.heap.size, 3, none⟩ = some (.slice (some ⟨b, off, none⟩) nh ch) := by rw [cell_of_row _ _ _ _ 26 _ HF.out.bx]; rfl
      go_wp2_with fail
      go_region_law (first
        | (go_simp; (with_reducible refine CP.out.mono ?_); rintro e w5 ⟨v, rfl, ⟨qv, cv, rfl, hR⟩, hb5⟩; dsimp only
           have hb6 : Below wr.heap.size wr w5 := (Below.refl wr.heap.size wr).drew.trans hb5
           have HF5 := Lib.hid (HF.out.keep hb6)
           generalize hn5 : (putP o ⟨tn, tv⟩).length = n5 at ⊢
           have HN5 := Lib.hid hn5
           have HA5 := Lib.hid (show AnsR prE (w.heap.size + 1 + 1 + 1) w5 (.slice qv n5 cv) (putP o ⟨tn, tv⟩) from (show AnsR prE wr.drew.heap.size w5 (.slice qv n5 cv) (putP o ⟨tn, tv⟩) from ⟨qv, cv, by rw [hn5], hR⟩).low (by have := HF.out.sz; show w.heap.size + 1 + 1 + 1 ≤ wr.heap.size; omega))
           clear hn5
           have y3 : w5.cell? ⟨w.heap.size + 1 + 1, 3, none⟩ = some (.slice qo no co) := by rw [cell_of_row _ _ _ _ 26 _ HF5.out.ou]; rfl
           have g3 : w5.frozen? ⟨w.heap.size + 1 + 1, 3, none⟩ = false := frozen_of_row _ _ _ _ 26 HF5.out.ou
           clear hR hb5 hb6))
      all_goals
        have HF6 := Lib.hid (show FB w (w5.setCell ⟨w.heap.size + 1 + 1, 3, none⟩ (.slice qv n5 cv)) _ _ #[.int .u8 0, .string ⟨#[]⟩, .slice none 0 0, .slice qv n5 cv, .slice none 0 0] from HF5.out.put 3 (.slice qv n5 cv))
        have HA6 := Lib.hid (show AnsR prE (w.heap.size + 1 + 1 + 1) (w5.setCell ⟨w.heap.size + 1 + 1, 3, none⟩ (.slice qv n5 cv)) (.slice qv n5 cv) (putP o ⟨tn, tv⟩) from ansR_put HA5.out (by show w.heap.size + 1 + 1 < _; omega))
        have hn6 : n5 ≤ k9 + 1 := by have h1 := HN5.out; have h2 := HLs.out; have h3 := HNo.out; omega
        clear y3 g3 HF5 HA5 c3 x3 u0 u1 CP HF HAo
        go_wp2_with fail
        go_roundw
        case rel => exact ⟨k9 + 1, n5, cv, _, qv, hlt, by go_num, hn6, HStk, HIs, HN5, HF6, HA6⟩
        case measure => simp [intOf]; omega
    · have HFe := Lib.hid (show fitH d.h = o by
        have h := HFo.out
        rw [List.take_of_length_le (by rw [HTl.out]; omega)] at h
        exact h)
      have c0 : wr.cell? ⟨w.heap.size + 1 + 1, 0, none⟩ = some (.int .u8 0) := by rw [cell_of_row _ _ _ _ 26 _ HF.out.ou]; rfl
      have f0 : wr.frozen? ⟨w.heap.size + 1 + 1, 0, none⟩ = false := frozen_of_row _ _ _ _ 26 HF.out.ou
      have z3 : wr.cell? ⟨w.heap.size, 3, none⟩ = some (.slice qh nh ch) := by rw [cell_of_row _ _ _ _ 26 _ HF.out.bx]; rfl
      have HFt := Lib.hid (show FB w (wr.setCell ⟨w.heap.size + 1 + 1, 0, none⟩ (.int .u8 3)) _ _ #[.int .u8 3, .string ⟨#[]⟩, .slice none 0 0, .slice qo no co, .slice none 0 0] from HF.out.put 0 (.int .u8 3))
      have HAt := Lib.hid (show AnsR prE (w.heap.size + 1 + 1 + 1) (wr.setCell ⟨w.heap.size + 1 + 1, 0, none⟩ (.int .u8 3)) (.slice qo no co) o from ansR_put HAo.out (by show w.heap.size + 1 + 1 < _; omega))
      have HZr := Lib.hid (show no = 0 ↔ d.h = [] by
        have h1 := HNo.out
        have h2 := HFe.out
        constructor
        · intro h
          refine Classical.byContradiction fun hne => ?_
          have h3 := (foldP_rises (d.h.take 8) [] List.Pairwise.nil).2 (Or.inl (take8_ne hne))
          apply h3
          show fitH d.h = []
          rw [h2]
          exact List.eq_nil_of_length_eq_zero (by omega)
        · intro h
          rw [h] at h2
          rw [← h1, ← h2]
          rfl)
      have dw : (¬ (k9 : Int) < (nh : Int) ∧ decide ((k9 : Int) < (nh : Int)) = false) ∨ ((k9 : Int) < (nh : Int) ∧ ¬ (k9 : Int) < 8 ∧ decide ((k9 : Int) < (nh : Int)) = true ∧ decide ((k9 : Int) < 8) = false) := by
        have := HMn.out
        by_cases h : (k9 : Int) < (nh : Int)
        · have h8 : ¬ (k9 : Int) < 8 := by omega
          exact Or.inr ⟨h, h8, decide_eq_true h, decide_eq_false h8⟩
        · exact Or.inl ⟨h, decide_eq_false h⟩
      clear HFo HIn HF HAo HSt
      rcases dw with ⟨d0, d1⟩ | ⟨d0, d8, d1, d2⟩
      all_goals
        go_upto_region 27 with fail
        generalize (wr.setCell _ _) = wt at HFt HAt ⊢
        have HF := HFt
        have HA := Lib.hid (⟨ansR_nil strE _ wt, HAt.out, ansR_nil mkE _ wt⟩ : AnsR strE (w.heap.size + 1 + 1 + 1) wt (.slice none 0 0) [] ∧ AnsR prE (w.heap.size + 1 + 1 + 1) wt (.slice qo no co) o ∧ AnsR mkE (w.heap.size + 1 + 1 + 1) wt (.slice none 0 0) [])
        have HVI := Lib.hid (show VIn wt 3 ⟨#[]⟩ none 0 0 qo no co none 0 0 ⟨3, [], [], o, []⟩ from by
          obtain ⟨q1, c1, e, hR, -, hc1, hc2, hc3⟩ := HAt.out
          injection e with e1 e2 e3
          subst e1 e3
          have hnl := HNo.out
          exact ⟨rfl, by show (_ : Nat) ≤ 255; simp, rfl, Rs.nil _ _ _, hR, Rs.nil _ _ _, rfl, hnl, rfl, by omega, by omega, by omega, by omega, by omega, by omega, by omega, hc2, by omega, fun _ => rfl, hc3, fun _ => rfl⟩)
        have HSz := Lib.hid (show sizeN ⟨3, [], [], o, []⟩ = no from HNo.out)
        clear HFt HAt
        by_cases h0 : no = 0
        · have HD := Lib.hid (show fitV d = v0 by unfold fitV; simp [HK.out, HZr.out.1 h0])
          have t0 : ((no : Int) == 0) = true := by rw [beq_iff_eq]; omega
          clear h0
          have HCs := Lib.hid (show (Tryd.prog.info? 26).map (·.size) = some (#[.int .u8 3, .string ⟨#[]⟩, .slice none 0 0, .slice qo no co, .slice none 0 0] : Array Value).size from val_size)
          have HOn := Lib.hid (show (#[.int .u8 3, .string ⟨#[]⟩, .slice none 0 0, .slice qo no co, .slice none 0 0] : Array Value).all (·.oneCell') = true by simp [Value.oneCell'])
          have CS := Lib.hid (rsize 3 ⟨#[]⟩ none 0 0 qo no co none 0 0 ⟨3, [], [], o, []⟩ wt HVI.out)
          rw [HSz.out] at CS
          go_wp2_with (with_reducible refine wpList_load_row rfl 26 (.tmp 3) rfl (w.heap.size + 1 + 1) rfl 26 #[.int .u8 3, .string ⟨#[]⟩, .slice none 0 0, .slice qo no co, .slice none 0 0] (0, 0) _ HF.out.ou Tryd.underlying26 rfl HCs.out ?_)
          with_reducible refine CS.out.mono ?_
          rintro e w9 ⟨rfl, hb9⟩
          have HF9 := Lib.hid (HF.out.keep hb9)
          have HA1 := Lib.hid (HA.out.1.keep hb9)
          have HA2 := Lib.hid (HA.out.2.1.keep hb9)
          have HA3 := Lib.hid (HA.out.2.2.keep hb9)
          clear hb9 HF HA CS
          have HCs9 := Lib.hid (show (Tryd.prog.info? 26).map (·.size) = some (#[.int .u8 0, .string ⟨#[]⟩, .slice none 0 0, .slice none 0 0, .slice none 0 0] : Array Value).size from val_size)
          have HOn9 := Lib.hid (show (#[.int .u8 0, .string ⟨#[]⟩, .slice none 0 0, .slice none 0 0, .slice none 0 0] : Array Value).all (·.oneCell') = true by simp [Value.oneCell'])
          have HE := Lib.hid (show ValP (fitV d) w _ _ by
            rw [HD.out]
            exact fit_ends (S := ⟨#[]⟩) (k := 0) (d := v0) (base := w.heap.size + 1 + 1) (Nat.lt_succ_self _) HF9.out rfl rfl (ansR_nil strE _ _) (ansR_nil prE _ _) (ansR_nil mkE _ _))
          go_wp2_with (with_reducible refine wpList_store_row rfl 26 (.tmp 2) (.tmp 102) rfl (w.heap.size + 1) #[.int .u8 0, .string ⟨#[]⟩, .slice none 0 0, .slice none 0 0, .slice none 0 0] rfl rfl 26 _ HF9.out.re HCs9.out rfl HOn9.out ?_)
          exact bodyPost_ret (results_cell_row rfl _ _ (w.heap.size + 1) 26 #[.int .u8 0, .string ⟨#[]⟩, .slice none 0 0, .slice none 0 0, .slice none 0 0] (0, 0) _ rfl (setRow_heap _ (w.heap.size + 1) _ _ _ _ HF9.out.re) Tryd.underlying26 rfl HCs9.out) rfl HE.out
        · have HD := Lib.hid (show fitV d = ⟨3, [], [], o, []⟩ by
            unfold fitV
            have hne : d.h ≠ [] := fun h => h0 (HZr.out.2 h)
            rw [← HFe.out]
            simp [HK.out, hne])
          have t0 : ((no : Int) == 0) = false := by rw [beq_eq_false_iff_ne]; omega
          have HCs := Lib.hid (show (Tryd.prog.info? 26).map (·.size) = some (#[.int .u8 3, .string ⟨#[]⟩, .slice none 0 0, .slice qo no co, .slice none 0 0] : Array Value).size from val_size)
          have HOn := Lib.hid (show (#[.int .u8 3, .string ⟨#[]⟩, .slice none 0 0, .slice qo no co, .slice none 0 0] : Array Value).all (·.oneCell') = true by simp [Value.oneCell'])
          have CS := Lib.hid (rsize 3 ⟨#[]⟩ none 0 0 qo no co none 0 0 ⟨3, [], [], o, []⟩ wt HVI.out)
          rw [HSz.out] at CS
          go_wp2_with (with_reducible refine wpList_load_row rfl 26 (.tmp 3) rfl (w.heap.size + 1 + 1) rfl 26 #[.int .u8 3, .string ⟨#[]⟩, .slice none 0 0, .slice qo no co, .slice none 0 0] (0, 0) _ HF.out.ou Tryd.underlying26 rfl HCs.out ?_)
          with_reducible refine CS.out.mono ?_
          rintro e w9 ⟨rfl, hb9⟩
          have HF9 := Lib.hid (HF.out.keep hb9)
          have HA1 := Lib.hid (HA.out.1.keep hb9)
          have HA2 := Lib.hid (HA.out.2.1.keep hb9)
          have HA3 := Lib.hid (HA.out.2.2.keep hb9)
          clear hb9 HF HA CS
          have HCs9 := HCs
          have HOn9 := HOn
          have HE := Lib.hid (show ValP (fitV d) w _ _ by
            rw [HD.out]
            exact fit_ends (S := ⟨#[]⟩) (k := 3) (d := ⟨3, [], [], o, []⟩) (base := w.heap.size + 1 + 1 + 1) (by omega) HF9.out rfl rfl HA1.out HA2.out HA3.out)
          go_wp2_with (first
            | (with_reducible refine wpList_load_row rfl 26 (.tmp 3) rfl (w.heap.size + 1 + 1) rfl 26 #[.int .u8 3, .string ⟨#[]⟩, .slice none 0 0, .slice qo no co, .slice none 0 0] (0, 0) _ HF9.out.ou Tryd.underlying26 rfl HCs.out ?_)
            | (with_reducible refine wpList_store_row rfl 26 (.tmp 2) (.tmp 103) rfl (w.heap.size + 1) #[.int .u8 3, .string ⟨#[]⟩, .slice none 0 0, .slice qo no co, .slice none 0 0] rfl rfl 26 _ HF9.out.re HCs9.out rfl HOn9.out ?_))
          exact bodyPost_ret (results_cell_row rfl _ _ (w.heap.size + 1) 26 #[.int .u8 3, .string ⟨#[]⟩, .slice none 0 0, .slice qo no co, .slice none 0 0] (0, 0) _ rfl (setRow_heap _ (w.heap.size + 1) _ _ _ _ HF9.out.re) Tryd.underlying26 rfl HCs9.out) rfl HE.out

end Go.Proofs.YtodpocciimbjbaaDoor.RefV
namespace Go.Proofs.YtodpocciimbjbaaDoor.RefV
open Go.RowKit Kit StrT RowG BOrd ValT
open Go.Op (bytesLess)
set_option linter.unusedVariables false
set_option maxRecDepth 100000

set_option maxHeartbeats 8000000 in
theorem rfit_5 (k : Int) (S : ByteArray) (ql : Option Addr) (nl cl : Nat) (qh : Option Addr) (nh ch : Nat) (qz : Option Addr) (nz cz : Nat) (d : V) (w : World) (H : VArg w k S ql nl cl qh nh ch qz nz cz d) (hS : S.size ≤ 140737488351232) (hk : d.kind % 6 = 5) :
    Calls Tryd.prog 8 #[.agg #[.int .u8 k, .string S, .slice ql nl cl, .slice qh nh ch, .slice qz nz cz]] w (ValP (fitV d) w) := by
  have HV := Lib.hid H
  have HK := Lib.hid hk
  have HFB := Lib.hid (FB.new w #[.int .u8 k, .string S, .slice ql nl cl, .slice qh nh ch, .slice qz nz cz] #[.int .u8 0, .string ⟨#[]⟩, .slice none 0 0, .slice none 0 0, .slice none 0 0] #[.int .u8 0, .string ⟨#[]⟩, .slice none 0 0, .slice none 0 0, .slice none 0 0])
  obtain ⟨m, hm⟩ : ∃ m, m = min nl 8 := ⟨_, rfl⟩
  have hmin : min (nl : Int) 8 = (m : Int) := by omega
  have hmc : m ≤ cl := by have := H.bl; omega
  have hml := H.ml
  have hfl := Nat.le_trans H.bl H.ml
  have hfh := Nat.le_trans H.bh H.mh
  have hfz := Nat.le_trans H.bz H.mz
  have x1 : (k % 6 == 1) = false := by rw [H.ek, beq_eq_false_iff_ne]; omega
  have x2 : (k % 6 == 2) = false := by rw [H.ek, beq_eq_false_iff_ne]; omega
  have x3 : (k % 6 == 3) = false := by rw [H.ek, beq_eq_false_iff_ne]; omega
  have x4 : (k % 6 == 4) = false := by rw [H.ek, beq_eq_false_iff_ne]; omega
  have x5 : (k % 6 == 5) = true := by rw [H.ek, beq_iff_eq]; omega
  have hk0 : 0 ≤ k := by rw [H.ek]; omega
  have hk1 : k ≤ 255 := by rw [H.ek]; have := H.kb; omega
  have HM := Lib.hid hm
  obtain ⟨M, hM8⟩ : ∃ M, M = min nz 8 := ⟨_, rfl⟩
  have HTl := Lib.hid (show (d.z.take 8).length = M by rw [List.length_take, H.lz, hM8]; omega)
  have hM9 : M ≤ 8 := by omega
  have HMn := Lib.hid (show M = min nz 8 from hM8)
  have HNz := Lib.hid (show d.z = [] ↔ M = 0 by
    have h1 := H.lz
    constructor
    · intro h
      rw [h] at h1
      simp at h1
      omega
    · intro h
      exact List.eq_nil_of_length_eq_zero (by omega))
  have HSt := Lib.hid (fun k (h : k < (d.z.take 8).length) => fold_take putM [] (d.z.take 8) k h)
  clear H hm hk hM8
  go_enter Tryd.func8, Tryd.ntmps8
  go_upto_region 22 with fail
  generalize (((w.alloc _).alloc _).alloc _) = w3 at HFB ⊢
  go_wp2_with fail
  go_loopw [7] (fun i wr => ∃ (k9 no co : Nat) (o : List (Mk)) (qo : Option Addr), k9 ≤ M ∧ i = .int .i64 k9 ∧ no ≤ k9 ∧ Hid (List.foldl putM [] ((d.z.take 8).take k9) = o) ∧ Hid (marks o) ∧ Hid (o.length = no) ∧ Hid (FB w wr #[.int .u8 k, .string S, .slice ql nl cl, .slice qh nh ch, .slice qz nz cz] #[.int .u8 0, .string ⟨#[]⟩, .slice none 0 0, .slice none 0 0, .slice none 0 0] #[.int .u8 0, .string ⟨#[]⟩, .slice none 0 0, .slice none 0 0, .slice qo no co]) ∧ Hid (AnsR mkE (w.heap.size + 1 + 1 + 1) wr (.slice qo no co) o)) (fun i _ => M - (intOf i).toNat)
  case atStart => exact ⟨0, 0, 0, [], none, Nat.zero_le _, rfl, Nat.le_refl _, Lib.hid rfl, Lib.hid List.Pairwise.nil, Lib.hid rfl, HFB, Lib.hid (ansR_nil mkE _ _)⟩
  case round =>
    clear HFB
    obtain ⟨k9, no, co, o, qo, hk9, rfl, hno, HFo, HIn, HNo, HF, HAo⟩ := hrel
    by_cases hlt : k9 < M
    · have hk90 : (0 : Int) ≤ (k9 : Int) := by omega
      have d1 : decide ((k9 : Int) < (nz : Int)) = true := decide_eq_true (by have := HMn.out; omega)
      have d2 : decide ((k9 : Int) < 8) = true := decide_eq_true (by omega)
      have hkn : (k9 : Int) < (nz : Int) := by have := HMn.out; omega
      obtain ⟨b, off, e1, hbl, u0, u1⟩ := mark_cells ((HV.out.rz.keep HF.out.bl).take 8) k9 (by rw [HTl.out]; exact hlt)
      have HStk := Lib.hid (HSt.out k9 (by rw [HTl.out]; exact hlt))
      rw [HFo.out] at HStk
      obtain ⟨t, ht⟩ : ∃ t, t = (d.z.take 8)[k9]'(by rw [HTl.out]; exact hlt) := ⟨_, rfl⟩
      rw [← ht] at HStk u0 u1
      subst e1
      obtain ⟨tn, tv⟩ := t
      simp only at u0 u1
      obtain ⟨T, hT⟩ : ∃ T : ByteArray, T = ⟨tn.toArray⟩ := ⟨_, rfl⟩
      rw [← hT] at u0
      have hz9 : no ≤ 500000 := Nat.le_trans (Nat.le_trans hno hk9) (Nat.le_trans hM9 (by decide))
      have CP := Lib.hid (show Calls Tryd.prog 22 #[.slice qo no co, .agg #[.string T, .int .i64 tv]] wr.drew (MarksA (putM o ⟨tn, tv⟩) wr.drew) from by
        obtain ⟨q1, c1, e, hR, -⟩ := HAo.out
        injection e with e1 e2 e3
        rw [← e1] at hR
        clear e1 e2 e3
        exact rputm qo o no co T ⟨tn, tv⟩ wr.drew HNo.out (hR.keep (Below.refl wr.heap.size wr).drew) hz9 (by rw [hT]))
      clear hT ht hbl
      have HIs := Lib.hid ((fun m h => (putM_marks m h).1) ⟨tn, tv⟩ HIn.out)
      have HLs := Lib.hid (putM_len ⟨tn, tv⟩ HIn.out)
      have c4 : wr.cell? ⟨w.heap.size + 1 + 1, 4, none⟩ = some (.slice qo no co) := by rw [cell_of_row _ _ _ _ 26 _ HF.out.ou]; rfl
      have x4 : wr.cell? ⟨w.heap.size, 4, none⟩ = some (.slice (some ⟨b, off, none⟩) nz cz) := by rw [cell_of_row _ _ _ _ 26 _ HF.out.bx]; rfl
      go_wp2_with fail
      go_region_law (first
        | (go_simp; (with_reducible refine CP.out.mono ?_); rintro e w5 ⟨v, rfl, ⟨qv, cv, rfl, hR⟩, hb5⟩; dsimp only
           have hb6 : Below wr.heap.size wr w5 := (Below.refl wr.heap.size wr).drew.trans hb5
           have HF5 := Lib.hid (HF.out.keep hb6)
           generalize hn5 : (putM o ⟨tn, tv⟩).length = n5 at ⊢
           have HN5 := Lib.hid hn5
           have HA5 := Lib.hid (show AnsR mkE (w.heap.size + 1 + 1 + 1) w5 (.slice qv n5 cv) (putM o ⟨tn, tv⟩) from (show AnsR mkE wr.drew.heap.size w5 (.slice qv n5 cv) (putM o ⟨tn, tv⟩) from ⟨qv, cv, by rw [hn5], hR⟩).low (by have := HF.out.sz; show w.heap.size + 1 + 1 + 1 ≤ wr.heap.size; omega))
           clear hn5
           have y4 : w5.cell? ⟨w.heap.size + 1 + 1, 4, none⟩ = some (.slice qo no co) := by rw [cell_of_row _ _ _ _ 26 _ HF5.out.ou]; rfl
           have g4 : w5.frozen? ⟨w.heap.size + 1 + 1, 4, none⟩ = false := frozen_of_row _ _ _ _ 26 HF5.out.ou
           clear hR hb5 hb6))
      all_goals
        have HF6 := Lib.hid (show FB w (w5.setCell ⟨w.heap.size + 1 + 1, 4, none⟩ (.slice qv n5 cv)) _ _ #[.int .u8 0, .string ⟨#[]⟩, .slice none 0 0, .slice none 0 0, .slice qv n5 cv] from HF5.out.put 4 (.slice qv n5 cv))
        have HA6 := Lib.hid (show AnsR mkE (w.heap.size + 1 + 1 + 1) (w5.setCell ⟨w.heap.size + 1 + 1, 4, none⟩ (.slice qv n5 cv)) (.slice qv n5 cv) (putM o ⟨tn, tv⟩) from ansR_put HA5.out (by show w.heap.size + 1 + 1 < _; omega))
        have hn6 : n5 ≤ k9 + 1 := by have h1 := HN5.out; have h2 := HLs.out; have h3 := HNo.out; omega
        clear y4 g4 HF5 HA5 c4 x4 u0 u1 CP HF HAo
        go_wp2_with fail
        go_roundw
        case rel => exact ⟨k9 + 1, n5, cv, _, qv, hlt, by go_num, hn6, HStk, HIs, HN5, HF6, HA6⟩
        case measure => simp [intOf]; omega
    · have HFe := Lib.hid (show fitZ d.z = o by
        have h := HFo.out
        rw [List.take_of_length_le (by rw [HTl.out]; omega)] at h
        exact h)
      have c0 : wr.cell? ⟨w.heap.size + 1 + 1, 0, none⟩ = some (.int .u8 0) := by rw [cell_of_row _ _ _ _ 26 _ HF.out.ou]; rfl
      have f0 : wr.frozen? ⟨w.heap.size + 1 + 1, 0, none⟩ = false := frozen_of_row _ _ _ _ 26 HF.out.ou
      have z4 : wr.cell? ⟨w.heap.size, 4, none⟩ = some (.slice qz nz cz) := by rw [cell_of_row _ _ _ _ 26 _ HF.out.bx]; rfl
      have HFt := Lib.hid (show FB w (wr.setCell ⟨w.heap.size + 1 + 1, 0, none⟩ (.int .u8 5)) _ _ #[.int .u8 5, .string ⟨#[]⟩, .slice none 0 0, .slice none 0 0, .slice qo no co] from HF.out.put 0 (.int .u8 5))
      have HAt := Lib.hid (show AnsR mkE (w.heap.size + 1 + 1 + 1) (wr.setCell ⟨w.heap.size + 1 + 1, 0, none⟩ (.int .u8 5)) (.slice qo no co) o from ansR_put HAo.out (by show w.heap.size + 1 + 1 < _; omega))
      have HZr := Lib.hid (show no = 0 ↔ d.z = [] by
        have h1 := HNo.out
        have h2 := HFe.out
        constructor
        · intro h
          refine Classical.byContradiction fun hne => ?_
          have h3 := (foldM_marks (d.z.take 8) [] List.Pairwise.nil).2 (Or.inl (take8_ne hne))
          apply h3
          show fitZ d.z = []
          rw [h2]
          exact List.eq_nil_of_length_eq_zero (by omega)
        · intro h
          rw [h] at h2
          rw [← h1, ← h2]
          rfl)
      have dw : (¬ (k9 : Int) < (nz : Int) ∧ decide ((k9 : Int) < (nz : Int)) = false) ∨ ((k9 : Int) < (nz : Int) ∧ ¬ (k9 : Int) < 8 ∧ decide ((k9 : Int) < (nz : Int)) = true ∧ decide ((k9 : Int) < 8) = false) := by
        have := HMn.out
        by_cases h : (k9 : Int) < (nz : Int)
        · have h8 : ¬ (k9 : Int) < 8 := by omega
          exact Or.inr ⟨h, h8, decide_eq_true h, decide_eq_false h8⟩
        · exact Or.inl ⟨h, decide_eq_false h⟩
      clear HFo HIn HF HAo HSt
      rcases dw with ⟨d0, d1⟩ | ⟨d0, d8, d1, d2⟩
      all_goals
        go_upto_region 27 with fail
        generalize (wr.setCell _ _) = wt at HFt HAt ⊢
        have HF := HFt
        have HA := Lib.hid (⟨ansR_nil strE _ wt, ansR_nil prE _ wt, HAt.out⟩ : AnsR strE (w.heap.size + 1 + 1 + 1) wt (.slice none 0 0) [] ∧ AnsR prE (w.heap.size + 1 + 1 + 1) wt (.slice none 0 0) [] ∧ AnsR mkE (w.heap.size + 1 + 1 + 1) wt (.slice qo no co) o)
        have HVI := Lib.hid (show VIn wt 5 ⟨#[]⟩ none 0 0 none 0 0 qo no co ⟨5, [], [], [], o⟩ from by
          obtain ⟨q1, c1, e, hR, -, hc1, hc2, hc3⟩ := HAt.out
          injection e with e1 e2 e3
          subst e1 e3
          have hnl := HNo.out
          exact ⟨rfl, by show (_ : Nat) ≤ 255; simp, rfl, Rs.nil _ _ _, Rs.nil _ _ _, hR, rfl, rfl, hnl, by omega, by omega, by omega, by omega, by omega, by omega, by omega, by omega, hc2, fun _ => rfl, fun _ => rfl, hc3⟩)
        have HSz := Lib.hid (show sizeN ⟨5, [], [], [], o⟩ = no from HNo.out)
        clear HFt HAt
        by_cases h0 : no = 0
        · have HD := Lib.hid (show fitV d = v0 by unfold fitV; simp [HK.out, HZr.out.1 h0])
          have t0 : ((no : Int) == 0) = true := by rw [beq_iff_eq]; omega
          clear h0
          have HCs := Lib.hid (show (Tryd.prog.info? 26).map (·.size) = some (#[.int .u8 5, .string ⟨#[]⟩, .slice none 0 0, .slice none 0 0, .slice qo no co] : Array Value).size from val_size)
          have HOn := Lib.hid (show (#[.int .u8 5, .string ⟨#[]⟩, .slice none 0 0, .slice none 0 0, .slice qo no co] : Array Value).all (·.oneCell') = true by simp [Value.oneCell'])
          have CS := Lib.hid (rsize 5 ⟨#[]⟩ none 0 0 none 0 0 qo no co ⟨5, [], [], [], o⟩ wt HVI.out)
          rw [HSz.out] at CS
          go_wp2_with (with_reducible refine wpList_load_row rfl 26 (.tmp 3) rfl (w.heap.size + 1 + 1) rfl 26 #[.int .u8 5, .string ⟨#[]⟩, .slice none 0 0, .slice none 0 0, .slice qo no co] (0, 0) _ HF.out.ou Tryd.underlying26 rfl HCs.out ?_)
          with_reducible refine CS.out.mono ?_
          rintro e w9 ⟨rfl, hb9⟩
          have HF9 := Lib.hid (HF.out.keep hb9)
          have HA1 := Lib.hid (HA.out.1.keep hb9)
          have HA2 := Lib.hid (HA.out.2.1.keep hb9)
          have HA3 := Lib.hid (HA.out.2.2.keep hb9)
          clear hb9 HF HA CS
          have HCs9 := Lib.hid (show (Tryd.prog.info? 26).map (·.size) = some (#[.int .u8 0, .string ⟨#[]⟩, .slice none 0 0, .slice none 0 0, .slice none 0 0] : Array Value).size from val_size)
          have HOn9 := Lib.hid (show (#[.int .u8 0, .string ⟨#[]⟩, .slice none 0 0, .slice none 0 0, .slice none 0 0] : Array Value).all (·.oneCell') = true by simp [Value.oneCell'])
          have HE := Lib.hid (show ValP (fitV d) w _ _ by
            rw [HD.out]
            exact fit_ends (S := ⟨#[]⟩) (k := 0) (d := v0) (base := w.heap.size + 1 + 1) (Nat.lt_succ_self _) HF9.out rfl rfl (ansR_nil strE _ _) (ansR_nil prE _ _) (ansR_nil mkE _ _))
          go_wp2_with (with_reducible refine wpList_store_row rfl 26 (.tmp 2) (.tmp 102) rfl (w.heap.size + 1) #[.int .u8 0, .string ⟨#[]⟩, .slice none 0 0, .slice none 0 0, .slice none 0 0] rfl rfl 26 _ HF9.out.re HCs9.out rfl HOn9.out ?_)
          exact bodyPost_ret (results_cell_row rfl _ _ (w.heap.size + 1) 26 #[.int .u8 0, .string ⟨#[]⟩, .slice none 0 0, .slice none 0 0, .slice none 0 0] (0, 0) _ rfl (setRow_heap _ (w.heap.size + 1) _ _ _ _ HF9.out.re) Tryd.underlying26 rfl HCs9.out) rfl HE.out
        · have HD := Lib.hid (show fitV d = ⟨5, [], [], [], o⟩ by
            unfold fitV
            have hne : d.z ≠ [] := fun h => h0 (HZr.out.2 h)
            rw [← HFe.out]
            simp [HK.out, hne])
          have t0 : ((no : Int) == 0) = false := by rw [beq_eq_false_iff_ne]; omega
          have HCs := Lib.hid (show (Tryd.prog.info? 26).map (·.size) = some (#[.int .u8 5, .string ⟨#[]⟩, .slice none 0 0, .slice none 0 0, .slice qo no co] : Array Value).size from val_size)
          have HOn := Lib.hid (show (#[.int .u8 5, .string ⟨#[]⟩, .slice none 0 0, .slice none 0 0, .slice qo no co] : Array Value).all (·.oneCell') = true by simp [Value.oneCell'])
          have CS := Lib.hid (rsize 5 ⟨#[]⟩ none 0 0 none 0 0 qo no co ⟨5, [], [], [], o⟩ wt HVI.out)
          rw [HSz.out] at CS
          go_wp2_with (with_reducible refine wpList_load_row rfl 26 (.tmp 3) rfl (w.heap.size + 1 + 1) rfl 26 #[.int .u8 5, .string ⟨#[]⟩, .slice none 0 0, .slice none 0 0, .slice qo no co] (0, 0) _ HF.out.ou Tryd.underlying26 rfl HCs.out ?_)
          with_reducible refine CS.out.mono ?_
          rintro e w9 ⟨rfl, hb9⟩
          have HF9 := Lib.hid (HF.out.keep hb9)
          have HA1 := Lib.hid (HA.out.1.keep hb9)
          have HA2 := Lib.hid (HA.out.2.1.keep hb9)
          have HA3 := Lib.hid (HA.out.2.2.keep hb9)
          clear hb9 HF HA CS
          have HCs9 := HCs
          have HOn9 := HOn
          have HE := Lib.hid (show ValP (fitV d) w _ _ by
            rw [HD.out]
            exact fit_ends (S := ⟨#[]⟩) (k := 5) (d := ⟨5, [], [], [], o⟩) (base := w.heap.size + 1 + 1 + 1) (by omega) HF9.out rfl rfl HA1.out HA2.out HA3.out)
          go_wp2_with (first
            | (with_reducible refine wpList_load_row rfl 26 (.tmp 3) rfl (w.heap.size + 1 + 1) rfl 26 #[.int .u8 5, .string ⟨#[]⟩, .slice none 0 0, .slice none 0 0, .slice qo no co] (0, 0) _ HF9.out.ou Tryd.underlying26 rfl HCs.out ?_)
            | (with_reducible refine wpList_store_row rfl 26 (.tmp 2) (.tmp 103) rfl (w.heap.size + 1) #[.int .u8 5, .string ⟨#[]⟩, .slice none 0 0, .slice none 0 0, .slice qo no co] rfl rfl 26 _ HF9.out.re HCs9.out rfl HOn9.out ?_))
          exact bodyPost_ret (results_cell_row rfl _ _ (w.heap.size + 1) 26 #[.int .u8 5, .string ⟨#[]⟩, .slice none 0 0, .slice none 0 0, .slice qo no co] (0, 0) _ rfl (setRow_heap _ (w.heap.size + 1) _ _ _ _ HF9.out.re) Tryd.underlying26 rfl HCs9.out) rfl HE.out
end Go.Proofs.YtodpocciimbjbaaDoor.RefV
namespace Go.Proofs.YtodpocciimbjbaaDoor.RefV
open Go.RowKit Kit StrT RowG BOrd ValT
open Go.Op (bytesLess)
set_option linter.unusedVariables false
set_option maxRecDepth 100000


theorem rfit (k : Int) (S : ByteArray) (ql : Option Addr) (nl cl : Nat) (qh : Option Addr) (nh ch : Nat) (qz : Option Addr) (nz cz : Nat) (d : V) (w : World) (H : VArg w k S ql nl cl qh nh ch qz nz cz d) (hS : S.size ≤ 140737488351232) :
    Calls Tryd.prog 8 #[.agg #[.int .u8 k, .string S, .slice ql nl cl, .slice qh nh ch, .slice qz nz cz]] w (ValP (fitV d) w) := by
  have hk : d.kind % 6 = 0 ∨ d.kind % 6 = 1 ∨ d.kind % 6 = 2 ∨ d.kind % 6 = 3 ∨ d.kind % 6 = 4 ∨ d.kind % 6 = 5 := by omega
  rcases hk with h | h | h | h | h | h
  · exact rfit_0 k S ql nl cl qh nh ch qz nz cz d w H hS h
  · exact rfit_1 k S ql nl cl qh nh ch qz nz cz d w H hS h
  · exact rfit_2 k S ql nl cl qh nh ch qz nz cz d w H hS h
  · exact rfit_3 k S ql nl cl qh nh ch qz nz cz d w H hS h
  · exact rfit_4 k S ql nl cl qh nh ch qz nz cz d w H hS h
  · exact rfit_5 k S ql nl cl qh nh ch qz nz cz d w H hS h

end Go.Proofs.YtodpocciimbjbaaDoor.RefV
