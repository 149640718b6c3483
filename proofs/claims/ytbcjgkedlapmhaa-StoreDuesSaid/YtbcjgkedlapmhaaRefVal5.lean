/-
  The document's own answers of layer 9 (package tipstaffref09): a pair put into a hash.
-/
import Derived.Test.YtbcjgkedlapmhaaRefVal4
namespace Go.Proofs.Ytbcjgkedlapmhaa.RefV
open Go.RowKit Kit StrT RowG BOrd ValT
open Go.Op (bytesLess)
set_option linter.unusedVariables false
set_option maxRecDepth 100000

def PairsA (L : List Pr) (w : World) (e : Ending) (w' : World) : Prop := ∃ v, e = .returned v ∧ AnsR prE w.heap.size w' v L ∧ Below w.heap.size w w'
theorem putP_ways (s x : Pr) (b : Bool) (o : List Pr) : (b = true ∧ decide (x.name = s.name) = true ∧ putPS s (o, b) x = (o, true)) ∨ (b = true ∧ decide (x.name = s.name) = false ∧ putPS s (o, b) x = (o ++ [x], true)) ∨ (b = false ∧ bytesLess x.name s.name = true ∧ decide (x.name = s.name) = false ∧ putPS s (o, b) x = (o ++ [x], false)) ∨
    (b = false ∧ bytesLess x.name s.name = false ∧ decide (x.name = s.name) = true ∧ putPS s (o, b) x = (o ++ [s], true)) ∨ (b = false ∧ bytesLess x.name s.name = false ∧ decide (x.name = s.name) = false ∧ putPS s (o, b) x = (o ++ [s] ++ [x], true)) := by
  unfold putPS
  simp only
  cases b with
  | true =>
    by_cases h : x.name = s.name
    · exact Or.inl ⟨rfl, decide_eq_true h, by rw [if_pos h, if_neg (by simp)]⟩
    · exact Or.inr (Or.inl ⟨rfl, decide_eq_false h, by rw [if_neg h, if_neg (by simp)]⟩)
  | false =>
    cases hl : bytesLess x.name s.name with
    | true =>
      have h := less_ne hl
      exact Or.inr (Or.inr (Or.inl ⟨rfl, rfl, decide_eq_false h, by rw [if_neg h, if_neg (by simp)]⟩))
    | false =>
      by_cases h : x.name = s.name
      · exact Or.inr (Or.inr (Or.inr (Or.inl ⟨rfl, rfl, decide_eq_true h, by rw [if_pos h, if_pos ⟨rfl, rfl⟩]⟩)))
      · exact Or.inr (Or.inr (Or.inr (Or.inr ⟨rfl, rfl, decide_eq_false h, by rw [if_neg h, if_pos ⟨rfl, rfl⟩]⟩)))
/-- A record in a block of its own. -/
structure PCells (w : World) (g : Nat) (ty : TypeId) (x0 x1 : Value) : Prop where
  hp : w.heap[g]? = some (.cells #[x0, x1] ty (0, 0))
  c0 : w.cell? ⟨g, 0, none⟩ = some x0
  c1 : w.cell? ⟨g, 1, none⟩ = some x1
theorem PCells.of {w : World} {g : Nat} {ty : TypeId} {x0 x1 : Value} (hp : w.heap[g]? = some (.cells #[x0, x1] ty (0, 0))) : PCells w g ty x0 x1 := by
  refine ⟨hp, ?_, ?_⟩ <;> (rw [cell_of_row _ _ _ _ ty _ hp]; rfl)
theorem PCells.keep {w w' : World} {g : Nat} {ty : TypeId} {x0 x1 : Value} (h : PCells w g ty x0 x1) (hb : Below w.heap.size w w') : PCells w' g ty x0 x1 :=
  PCells.of (by rw [hb.block g (Array.getElem?_eq_some_iff.1 h.hp).1]; exact h.hp)
theorem pair_sz : (Try.prog.info? 65).map (·.size) = some 2 := by kernel_rfl
theorem mark_sz : (Try.prog.info? 67).map (·.size) = some 2 := by kernel_rfl

set_option maxHeartbeats 8000000 in
theorem rputp (q : Option Addr) (L : List Pr) (n c : Nat) (S S2 : ByteArray) (s : Pr) (w : World) (hn : L.length = n) (h : Rs prE w q L) (hz : n ≤ 500000) (hS : S.data.toList = s.name) (hS2 : S2.data.toList = s.val) :
    Calls Try.prog 44 #[.slice q n c, .agg #[.string S, .string S2]] w (PairsA (putP L s) w) := by
  have HW := Lib.hid (show Below w.heap.size w (w.alloc (.cells #[.string S, .string S2] 65)) from bel_new w _)
  have HS := Lib.hid (h.keep HW.out)
  have HN := Lib.hid hn
  have HSd := Lib.hid hS
  have HSe := Lib.hid (show prE.enc s = [.string S, .string S2] by
    show [Value.string ⟨s.name.toArray⟩, Value.string ⟨s.val.toArray⟩] = _
    rw [← hS, ← hS2])
  have HP := Lib.hid (PCells.of (show (w.alloc (.cells #[.string S, .string S2] 65)).heap[w.heap.size]? = some (.cells #[.string S, .string S2] 65 (0, 0)) from heap_alloc_last w _))
  have HO := Lib.hid (ownR_new prE (w.alloc (.cells #[.string S, .string S2] 65)).heap.size (w.alloc (.cells #[.string S, .string S2] 65)) (w.heap.size + 1) (by simp) (Nat.le_refl _))
  have HB0 := Lib.hid (show Below (w.alloc (.cells #[.string S, .string S2] 65)).heap.size (w.alloc (.cells #[.string S, .string S2] 65)) ((w.alloc (.cells #[.string S, .string S2] 65)).alloc (.cells #[] prE.ty)) from bel_new _ _)
  have HE := Lib.hid (fun k (h : k < L.length) => fold_take (putPS s) ([], false) L k h)
  have HWs := Lib.hid (show (w.alloc (.cells #[.string S, .string S2] 65)).heap.size = w.heap.size + 1 by simp)
  clear h hn hS hS2
  go_enter Try.func44, Try.ntmps44
  go_wp2_with fail
  generalize w.alloc (.cells #[.string S, .string S2] 65) = w1 at HW HS HP HO HB0 HWs ⊢
  go_loopw [5, 6, 7] (fun v b i wr => ∃ (k : Nat) (o : List Pr) (B : Bool), k ≤ n ∧ i = .int .i64 k ∧ b = .bool B ∧ o.length ≤ 2 * k ∧ Hid ((L.take k).foldl (putPS s) ([], false) = (o, B)) ∧ Hid (OwnR prE w1.heap.size wr v o) ∧ Hid (Below w1.heap.size w1 wr)) (fun _ _ i _ => n - (intOf i).toNat)
  case atStart => exact ⟨0, [], false, Nat.zero_le _, rfl, rfl, Nat.le_refl _, Lib.hid rfl, HO, HB0⟩
  case round =>
    obtain ⟨k, o, B, hk, rfl, rfl, hol, HF, HOw, HB⟩ := hrel
    by_cases hlt : k < n
    · have d1 : decide ((k : Int) < (n : Int)) = true := decide_eq_true (by omega)
      have hk0 : (0 : Int) ≤ (k : Int) := by omega
      have hkn : (k : Int) < (n : Int) := by omega
      have HNx := Lib.hid (HE.out k (by rw [HN.out]; exact hlt))
      obtain ⟨b, off, e1, hbl, u0, u1⟩ := pair_cells HS.out k (by rw [HN.out]; exact hlt)
      obtain ⟨X, hX⟩ : ∃ X, X = L[k]'(by rw [HN.out]; exact hlt) := ⟨_, rfl⟩
      rw [← hX] at u0 u1 HNx
      rw [HF.out] at HNx
      have hw := putP_ways s X B o
      obtain ⟨xn, xv⟩ := X
      simp only at u0 u1 hw
      obtain ⟨T, hT⟩ : ∃ T : ByteArray, T = ⟨xn.toArray⟩ := ⟨_, rfl⟩
      obtain ⟨T2, hT2⟩ : ∃ T : ByteArray, T = ⟨xv.toArray⟩ := ⟨_, rfl⟩
      rw [← hT] at u0
      rw [← hT2] at u1
      have HU := Lib.hid (fun W (hb : Below w1.heap.size w1 W) => (⟨(hb.cell (p := ⟨b, off + k * 2, none⟩) hbl).trans u0, (hb.cell (p := ⟨b, off + k * 2 + 1, none⟩) hbl).trans u1, (HP.out.keep hb).c0, (HP.out.keep hb).c1, (HP.out.keep hb).hp⟩ :
        W.cell? ⟨b, off + k * 2, none⟩ = some (.string T) ∧ W.cell? ⟨b, off + k * 2 + 1, none⟩ = some (.string T2) ∧ W.cell? ⟨w.heap.size, 0, none⟩ = some (.string S) ∧ W.cell? ⟨w.heap.size, 1, none⟩ = some (.string S2) ∧ W.heap[w.heap.size]? = some (.cells #[.string S, .string S2] 65 (0, 0))))
      subst e1
      have hE : (T.toList == S.toList) = decide (xn = s.name) := by rw [hT, bytes_of, ByteArray.toList_eq, HSd.out]; rw [Bool.eq_iff_iff]; simp
      have hM : bytesLess T.toList S.toList = bytesLess xn s.name := by rw [hT, bytes_of, ByteArray.toList_eq, HSd.out]
      have hE2 : (T.toList != S.toList) = !decide (xn = s.name) := by rw [bne, hE]
      have HC1 := Lib.hid (fun (W : World) k hk => rec_new prE W k s #[.string S, .string S2] (by rw [HSe.out]) hk)
      have HC2 := Lib.hid (fun (W : World) k hk => rec_new prE W k ⟨xn, xv⟩ #[.string T, .string T2] (by rw [hT, hT2]; rfl) hk)
      have HLn := Lib.hid (show o.length ≤ 1048576 ∧ (o ++ [s]).length ≤ 1048576 ∧ (o ++ [(⟨xn, xv⟩ : Pr)]).length ≤ 2 * (k + 1) ∧ (o ++ [s]).length ≤ 2 * (k + 1) ∧ (o ++ [s] ++ [(⟨xn, xv⟩ : Pr)]).length ≤ 2 * (k + 1) ∧ o.length ≤ 2 * (k + 1) by simp; omega)
      clear hT hT2 hX hbl HF u0 u1
      obtain ⟨u0, u1, p0, p1, -⟩ := HU.out wr HB.out
      rcases hw with ⟨rfl, t1, hp⟩ | ⟨rfl, t1, hp⟩ | ⟨rfl, t2, t1, hp⟩ | ⟨rfl, t2, t1, hp⟩ | ⟨rfl, t2, t1, hp⟩
      · rw [hp] at HNx
        rw [t1] at hE hE2
        clear hp t1
        have hbr := HB.out
        have hor := HOw.out
        clear HB HOw
        go_wp2_with fail
        go_quiet (fail)
        have hbrq := drewN_below hbr nq
        have horq := hor.keep (drewN_below (Below.refl wr.heap.size wr) nq)
        clear u0 u1 p0 p1
        generalize wr.drewN nq = wa at hbrq horq ⊢
        clear hbr hor nq
        have HBa := Lib.hid hbrq
        have HOa := Lib.hid horq
        clear hbrq horq
        obtain ⟨u0, u1, p0, p1, -⟩ := HU.out wa HBa.out
        have hbr := HBa.out
        have hor := HOa.out
        clear HBa HOa
        go_wp2_with fail
        go_quiet (fail)
        have hbrq := drewN_below hbr nq
        have horq := hor.keep (drewN_below (Below.refl wa.heap.size wa) nq)
        clear u0 u1 p0 p1
        generalize wa.drewN nq = wc at hbrq horq ⊢
        clear hbr hor nq
        have HBc := Lib.hid hbrq
        have HOc := Lib.hid horq
        clear hbrq horq
        obtain ⟨u0, u1, p0, p1, -⟩ := HU.out wc HBc.out
        go_wp2_with fail
        go_roundw
        case rel => exact ⟨k + 1, o, true, by omega, by go_num, rfl, HLn.out.2.2.2.2.2, HNx, HOc, HBc⟩
        case measure => simp [intOf]; omega
      · rw [hp] at HNx
        rw [t1] at hE hE2
        clear hp t1
        have hbr := HB.out
        have hor := HOw.out
        clear HB HOw
        go_wp2_with fail
        go_quiet (fail)
        have hbrq := drewN_below hbr nq
        have horq := hor.keep (drewN_below (Below.refl wr.heap.size wr) nq)
        clear u0 u1 p0 p1
        generalize wr.drewN nq = wa at hbrq horq ⊢
        clear hbr hor nq
        have HBa := Lib.hid hbrq
        have HOa := Lib.hid horq
        clear hbrq horq
        obtain ⟨u0, u1, p0, p1, -⟩ := HU.out wa HBa.out
        have hbr := HBa.out
        have hor := HOa.out
        clear HBa HOa
        go_wp2_with fail
        go_quiet (fail)
        have hbrq := drewN_below hbr nq
        have horq := hor.keep (drewN_below (Below.refl wa.heap.size wa) nq)
        clear u0 u1 p0 p1
        generalize wa.drewN nq = wc at hbrq horq ⊢
        clear hbr hor nq
        have HBc := Lib.hid hbrq
        have HOc := Lib.hid horq
        clear hbrq horq
        obtain ⟨u0, u1, p0, p1, -⟩ := HU.out wc HBc.out
        have HO2 := Lib.hid (HOc.out.keep (bel_new wc (.cells #[.string T, .string T2] prE.ty)))
        have HB2 := Lib.hid (HBc.out.alloc HBc.out.size (.cells #[.string T, .string T2] prE.ty))
        have HLq := Lib.hid HLn.out.1
        go_wp2_with (at_builtin; refine wpList_append_r prE (w0 := w1) rfl (.tmp 39) (.tmp 44) rfl _ _ rfl HO2.out HB2.out wc.heap.size ⟨xn, xv⟩ 1 rfl (HC2.out wc wc.heap.size rfl) HLq.out ?_; intro v4 w4 hown2 hb4)
        go_roundw
        case rel => exact ⟨k + 1, o ++ [⟨xn, xv⟩], true, by omega, by go_num, rfl, HLn.out.2.2.1, HNx, Lib.hid hown2, Lib.hid hb4⟩
        case measure => simp [intOf]; omega
      · rw [hp] at HNx
        rw [t1] at hE hE2
        rw [t2] at hM
        clear t2
        clear hp t1
        have hbr := HB.out
        have hor := HOw.out
        clear HB HOw
        go_wp2_with fail
        go_quiet (fail)
        have hbrq := drewN_below hbr nq
        have horq := hor.keep (drewN_below (Below.refl wr.heap.size wr) nq)
        clear u0 u1 p0 p1
        generalize wr.drewN nq = wa at hbrq horq ⊢
        clear hbr hor nq
        have HBa := Lib.hid hbrq
        have HOa := Lib.hid horq
        clear hbrq horq
        obtain ⟨u0, u1, p0, p1, -⟩ := HU.out wa HBa.out
        have hbr := HBa.out
        have hor := HOa.out
        clear HBa HOa
        go_wp2_with fail
        go_quiet (fail)
        have hbrq := drewN_below hbr nq
        have horq := hor.keep (drewN_below (Below.refl wa.heap.size wa) nq)
        clear u0 u1 p0 p1
        generalize wa.drewN nq = wc at hbrq horq ⊢
        clear hbr hor nq
        have HBc := Lib.hid hbrq
        have HOc := Lib.hid horq
        clear hbrq horq
        obtain ⟨u0, u1, p0, p1, -⟩ := HU.out wc HBc.out
        have HO2 := Lib.hid (HOc.out.keep (bel_new wc (.cells #[.string T, .string T2] prE.ty)))
        have HB2 := Lib.hid (HBc.out.alloc HBc.out.size (.cells #[.string T, .string T2] prE.ty))
        have HLq := Lib.hid HLn.out.1
        go_wp2_with (at_builtin; refine wpList_append_r prE (w0 := w1) rfl (.tmp 39) (.tmp 44) rfl _ _ rfl HO2.out HB2.out wc.heap.size ⟨xn, xv⟩ 1 rfl (HC2.out wc wc.heap.size rfl) HLq.out ?_; intro v4 w4 hown2 hb4)
        go_roundw
        case rel => exact ⟨k + 1, o ++ [⟨xn, xv⟩], false, by omega, by go_num, rfl, HLn.out.2.2.1, HNx, Lib.hid hown2, Lib.hid hb4⟩
        case measure => simp [intOf]; omega
      · rw [hp] at HNx
        rw [t1] at hE hE2
        rw [t2] at hM
        clear t2
        clear hp t1
        have hbr := HB.out
        have hor := HOw.out
        clear HB HOw
        go_wp2_with fail
        go_quiet (fail)
        have hbrq := drewN_below hbr nq
        have horq := hor.keep (drewN_below (Below.refl wr.heap.size wr) nq)
        clear u0 u1 p0 p1
        generalize wr.drewN nq = wa at hbrq horq ⊢
        clear hbr hor nq
        have HBa := Lib.hid hbrq
        have HOa := Lib.hid horq
        clear hbrq horq
        obtain ⟨u0, u1, p0, p1, -⟩ := HU.out wa HBa.out
        have HO1 := Lib.hid (HOa.out.keep (bel_new wa (.cells #[.string S, .string S2] prE.ty)))
        have HB1 := Lib.hid (HBa.out.alloc HBa.out.size (.cells #[.string S, .string S2] prE.ty))
        have HLp := Lib.hid HLn.out.1
        go_wp2_with (at_builtin; refine wpList_append_r prE (w0 := w1) rfl (.tmp 27) (.tmp 29) rfl _ _ rfl HO1.out HB1.out wa.heap.size s 1 rfl (HC1.out wa wa.heap.size rfl) HLp.out ?_; intro v' wb hown1 hb3)
        clear HO1 HB1 HOa HBa u0 u1 p0 p1
        obtain ⟨u0, u1, p0, p1, -⟩ := HU.out wb hb3
        have hbr := hb3
        have hor := hown1
        clear hb3 hown1
        go_wp2_with fail
        go_quiet (fail)
        have hbrq := drewN_below hbr nq
        have horq := hor.keep (drewN_below (Below.refl wb.heap.size wb) nq)
        clear u0 u1 p0 p1
        generalize wb.drewN nq = wc at hbrq horq ⊢
        clear hbr hor nq
        have HBc := Lib.hid hbrq
        have HOc := Lib.hid horq
        clear hbrq horq
        obtain ⟨u0, u1, p0, p1, -⟩ := HU.out wc HBc.out
        go_wp2_with fail
        go_roundw
        case rel => exact ⟨k + 1, o ++ [s], true, by omega, by go_num, rfl, HLn.out.2.2.2.1, HNx, HOc, HBc⟩
        case measure => simp [intOf]; omega
      · rw [hp] at HNx
        rw [t1] at hE hE2
        rw [t2] at hM
        clear t2
        clear hp t1
        have hbr := HB.out
        have hor := HOw.out
        clear HB HOw
        go_wp2_with fail
        go_quiet (fail)
        have hbrq := drewN_below hbr nq
        have horq := hor.keep (drewN_below (Below.refl wr.heap.size wr) nq)
        clear u0 u1 p0 p1
        generalize wr.drewN nq = wa at hbrq horq ⊢
        clear hbr hor nq
        have HBa := Lib.hid hbrq
        have HOa := Lib.hid horq
        clear hbrq horq
        obtain ⟨u0, u1, p0, p1, -⟩ := HU.out wa HBa.out
        have HO1 := Lib.hid (HOa.out.keep (bel_new wa (.cells #[.string S, .string S2] prE.ty)))
        have HB1 := Lib.hid (HBa.out.alloc HBa.out.size (.cells #[.string S, .string S2] prE.ty))
        have HLp := Lib.hid HLn.out.1
        go_wp2_with (at_builtin; refine wpList_append_r prE (w0 := w1) rfl (.tmp 27) (.tmp 29) rfl _ _ rfl HO1.out HB1.out wa.heap.size s 1 rfl (HC1.out wa wa.heap.size rfl) HLp.out ?_; intro v' wb hown1 hb3)
        clear HO1 HB1 HOa HBa u0 u1 p0 p1
        obtain ⟨u0, u1, p0, p1, -⟩ := HU.out wb hb3
        have hbr := hb3
        have hor := hown1
        clear hb3 hown1
        go_wp2_with fail
        go_quiet (fail)
        have hbrq := drewN_below hbr nq
        have horq := hor.keep (drewN_below (Below.refl wb.heap.size wb) nq)
        clear u0 u1 p0 p1
        generalize wb.drewN nq = wc at hbrq horq ⊢
        clear hbr hor nq
        have HBc := Lib.hid hbrq
        have HOc := Lib.hid horq
        clear hbrq horq
        obtain ⟨u0, u1, p0, p1, -⟩ := HU.out wc HBc.out
        have HO2 := Lib.hid (HOc.out.keep (bel_new wc (.cells #[.string T, .string T2] prE.ty)))
        have HB2 := Lib.hid (HBc.out.alloc HBc.out.size (.cells #[.string T, .string T2] prE.ty))
        have HLq := Lib.hid HLn.out.2.1
        go_wp2_with (at_builtin; refine wpList_append_r prE (w0 := w1) rfl (.tmp 39) (.tmp 44) rfl _ _ rfl HO2.out HB2.out wc.heap.size ⟨xn, xv⟩ 1 rfl (HC2.out wc wc.heap.size rfl) HLq.out ?_; intro v4 w4 hown2 hb4)
        go_roundw
        case rel => exact ⟨k + 1, o ++ [s] ++ [⟨xn, xv⟩], true, by omega, by go_num, rfl, HLn.out.2.2.2.2.1, HNx, Lib.hid hown2, Lib.hid hb4⟩
        case measure => simp [intOf]; omega
    · have d1 : decide ((k : Int) < (n : Int)) = false := decide_eq_false (by omega)
      have HX := Lib.hid (show putP L s = putPE s (o, B) by
        have h := HF.out
        rw [List.take_of_length_le (by rw [HN.out]; omega)] at h
        unfold putP
        rw [h])
      have hol2 : o.length ≤ 1048576 := by omega
      have HBw := Lib.hid (HW.out.trans (HB.out.mono HW.out.size))
      have p0 := (HP.out.keep HB.out).c0
      have p1 := (HP.out.keep HB.out).c1
      cases B with
      | true =>
        have HR := Lib.hid (show AnsR prE w.heap.size wr u5 (putP L s) by rw [HX.out]; exact HOw.out.ans.low HW.out.size)
        go_wp2_with fail
        go_ret
        exact ⟨_, rfl, HR.out, HBw.out⟩
      | false =>
        have HO1 := Lib.hid (HOw.out.keep (bel_new wr (.cells #[.string S, .string S2] prE.ty)))
        have HBa := Lib.hid (HB.out.alloc HB.out.size (.cells #[.string S, .string S2] prE.ty))
        have HC1 := Lib.hid (rec_new prE wr wr.heap.size s #[.string S, .string S2] (by rw [HSe.out]) rfl)
        go_wp2_with (at_builtin; refine wpList_append_r prE (w0 := w1) rfl (.tmp 48) (.tmp 50) rfl _ _ rfl HO1.out HBa.out wr.heap.size s 1 rfl HC1.out hol2 ?_; intro v' w3 hown1 hb3)
        have HR := Lib.hid (show AnsR prE w.heap.size w3 v' (putP L s) by rw [HX.out]; exact hown1.ans.low HW.out.size)
        have HBf := Lib.hid (HW.out.trans (hb3.mono HW.out.size))
        go_wp2_with fail
        go_ret
        exact ⟨_, rfl, HR.out, HBf.out⟩

end Go.Proofs.Ytbcjgkedlapmhaa.RefV
