/-
  The document's own answers of layer 9 (package tipstaffref09): a mark put into a sorted set.
-/
import Derived.Test.YtbcjgkedlapmhaaRefVal5
namespace Go.Proofs.Ytbcjgkedlapmhaa.RefV
open Go.RowKit Kit StrT RowG BOrd ValT
open Go.Op (bytesLess)
set_option linter.unusedVariables false
set_option maxRecDepth 100000

def MarksA (L : List Mk) (w : World) (e : Ending) (w' : World) : Prop := ∃ v, e = .returned v ∧ AnsR mkE w.heap.size w' v L ∧ Below w.heap.size w w'
theorem putM_ways (m x : Mk) (b : Bool) (o : List Mk) : (decide (x.name = m.name) = true ∧ putMS m (o, b) x = (o, b)) ∨ (decide (x.name = m.name) = false ∧ b = true ∧ putMS m (o, b) x = (o ++ [x], true)) ∨
    (decide (x.name = m.name) = false ∧ b = false ∧ ¬ m.n < x.n ∧ x.n ≠ m.n ∧ putMS m (o, b) x = (o ++ [x], false)) ∨ (decide (x.name = m.name) = false ∧ b = false ∧ ¬ m.n < x.n ∧ x.n = m.n ∧ bytesLess x.name m.name = true ∧ putMS m (o, b) x = (o ++ [x], false)) ∨
    (decide (x.name = m.name) = false ∧ b = false ∧ m.n < x.n ∧ putMS m (o, b) x = (o ++ [m] ++ [x], true)) ∨ (decide (x.name = m.name) = false ∧ b = false ∧ ¬ m.n < x.n ∧ x.n = m.n ∧ bytesLess x.name m.name = false ∧ putMS m (o, b) x = (o ++ [m] ++ [x], true)) := by
  unfold putMS
  simp only
  by_cases h : x.name = m.name
  · exact Or.inl ⟨decide_eq_true h, by rw [if_pos h]⟩
  · cases b with
    | true => exact Or.inr (Or.inl ⟨decide_eq_false h, rfl, by rw [if_neg h, if_neg (by simp)]⟩)
    | false =>
      by_cases h1 : m.n < x.n
      · exact Or.inr (Or.inr (Or.inr (Or.inr (Or.inl ⟨decide_eq_false h, rfl, h1, by rw [if_neg h, if_pos ⟨rfl, Or.inl h1⟩]⟩))))
      · by_cases h2 : x.n = m.n
        · cases h3 : bytesLess x.name m.name with
          | true =>
            have h4 : ¬ (false = false ∧ gtM x m) := fun h => by
              rcases h.2 with h5 | ⟨-, h5⟩
              · exact h1 h5
              · rw [less_asymm h3] at h5; cases h5
            exact Or.inr (Or.inr (Or.inr (Or.inl ⟨decide_eq_false h, rfl, h1, h2, rfl, by rw [if_neg h, if_neg h4]⟩)))
          | false =>
            have h4 : bytesLess m.name x.name = true := by
              rcases (geq_iff _ _).1 h3 with h5 | h5
              · exact absurd h5.symm h
              · exact h5
            exact Or.inr (Or.inr (Or.inr (Or.inr (Or.inr ⟨decide_eq_false h, rfl, h1, h2, rfl, by rw [if_neg h, if_pos ⟨rfl, Or.inr ⟨h2, h4⟩⟩]⟩))))
        · have h4 : ¬ (false = false ∧ gtM x m) := fun h => by
            rcases h.2 with h5 | ⟨h5, -⟩
            · exact h1 h5
            · exact h2 h5
          exact Or.inr (Or.inr (Or.inl ⟨decide_eq_false h, rfl, h1, h2, by rw [if_neg h, if_neg h4]⟩))

set_option maxHeartbeats 8000000 in
theorem rputm (q : Option Addr) (L : List Mk) (n c : Nat) (S : ByteArray) (m : Mk) (w : World) (hn : L.length = n) (h : Rs mkE w q L) (hz : n ≤ 500000) (hS : S.data.toList = m.name) :
    Calls Try.prog 45 #[.slice q n c, .agg #[.string S, .int .i64 m.n]] w (MarksA (putM L m) w) := by
  have HW := Lib.hid (show Below w.heap.size w (w.alloc (.cells #[.string S, .int .i64 m.n] 67)) from bel_new w _)
  have HS := Lib.hid (h.keep HW.out)
  have HN := Lib.hid hn
  have HSd := Lib.hid hS
  have HSe := Lib.hid (show mkE.enc m = [.string S, .int .i64 m.n] by
    show [Value.string ⟨m.name.toArray⟩, Value.int .i64 m.n] = _
    rw [← hS])
  have HP := Lib.hid (PCells.of (show (w.alloc (.cells #[.string S, .int .i64 m.n] 67)).heap[w.heap.size]? = some (.cells #[.string S, .int .i64 m.n] 67 (0, 0)) from heap_alloc_last w _))
  have HO := Lib.hid (ownR_new mkE (w.alloc (.cells #[.string S, .int .i64 m.n] 67)).heap.size (w.alloc (.cells #[.string S, .int .i64 m.n] 67)) (w.heap.size + 1) (by simp) (Nat.le_refl _))
  have HB0 := Lib.hid (show Below (w.alloc (.cells #[.string S, .int .i64 m.n] 67)).heap.size (w.alloc (.cells #[.string S, .int .i64 m.n] 67)) ((w.alloc (.cells #[.string S, .int .i64 m.n] 67)).alloc (.cells #[] mkE.ty)) from bel_new _ _)
  have HE := Lib.hid (fun k (h : k < L.length) => fold_take (putMS m) ([], false) L k h)
  have HWs := Lib.hid (show (w.alloc (.cells #[.string S, .int .i64 m.n] 67)).heap.size = w.heap.size + 1 by simp)
  obtain ⟨M, hMM⟩ : ∃ M, M = m.n := ⟨_, rfl⟩
  rw [← hMM] at HSe HP HW HS HO HB0 HWs ⊢
  have HMm := Lib.hid hMM
  clear h hn hS hMM
  go_enter Try.func45, Try.ntmps45
  go_wp2_with fail
  generalize w.alloc (.cells #[.string S, .int .i64 M] 67) = w1 at HW HS HP HO HB0 HWs ⊢
  go_loopw [5, 6, 7] (fun v b i wr => ∃ (k : Nat) (o : List Mk) (B : Bool), k ≤ n ∧ i = .int .i64 k ∧ b = .bool B ∧ o.length ≤ 2 * k ∧ Hid ((L.take k).foldl (putMS m) ([], false) = (o, B)) ∧ Hid (OwnR mkE w1.heap.size wr v o) ∧ Hid (Below w1.heap.size w1 wr)) (fun _ _ i _ => n - (intOf i).toNat)
  case atStart => exact ⟨0, [], false, Nat.zero_le _, rfl, rfl, Nat.le_refl _, Lib.hid rfl, HO, HB0⟩
  case round =>
    obtain ⟨k, o, B, hk, rfl, rfl, hol, HF, HOw, HB⟩ := hrel
    by_cases hlt : k < n
    · have d1 : decide ((k : Int) < (n : Int)) = true := decide_eq_true (by omega)
      have hk0 : (0 : Int) ≤ (k : Int) := by omega
      have hkn : (k : Int) < (n : Int) := by omega
      have HNx := Lib.hid (HE.out k (by rw [HN.out]; exact hlt))
      obtain ⟨b, off, e1, hbl, u0, u1⟩ := mark_cells HS.out k (by rw [HN.out]; exact hlt)
      obtain ⟨X, hX⟩ : ∃ X, X = L[k]'(by rw [HN.out]; exact hlt) := ⟨_, rfl⟩
      rw [← hX] at u0 u1 HNx
      rw [HF.out] at HNx
      have hw := putM_ways m X B o
      obtain ⟨xn, x⟩ := X
      simp only at u0 u1 hw
      rw [← HMm.out] at hw
      obtain ⟨T, hT⟩ : ∃ T : ByteArray, T = ⟨xn.toArray⟩ := ⟨_, rfl⟩
      rw [← hT] at u0
      have HU := Lib.hid (fun W (hb : Below w1.heap.size w1 W) => (⟨(hb.cell (p := ⟨b, off + k * 2, none⟩) hbl).trans u0, (hb.cell (p := ⟨b, off + k * 2 + 1, none⟩) hbl).trans u1, (HP.out.keep hb).c0, (HP.out.keep hb).c1, (HP.out.keep hb).hp⟩ :
        W.cell? ⟨b, off + k * 2, none⟩ = some (.string T) ∧ W.cell? ⟨b, off + k * 2 + 1, none⟩ = some (.int .i64 x) ∧ W.cell? ⟨w.heap.size, 0, none⟩ = some (.string S) ∧ W.cell? ⟨w.heap.size, 1, none⟩ = some (.int .i64 M) ∧ W.heap[w.heap.size]? = some (.cells #[.string S, .int .i64 M] 67 (0, 0))))
      subst e1
      have hE : (T.toList == S.toList) = decide (xn = m.name) := by rw [hT, bytes_of, ByteArray.toList_eq, HSd.out]; rw [Bool.eq_iff_iff]; simp
      have hM : bytesLess T.toList S.toList = bytesLess xn m.name := by rw [hT, bytes_of, ByteArray.toList_eq, HSd.out]
      have HC1 := Lib.hid (fun (W : World) k hk => rec_new mkE W k m #[.string S, .int .i64 M] (by rw [HSe.out]) hk)
      have HC2 := Lib.hid (fun (W : World) k hk => rec_new mkE W k ⟨xn, x⟩ #[.string T, .int .i64 x] (by rw [hT]; rfl) hk)
      have HLn := Lib.hid (show o.length ≤ 1048576 ∧ (o ++ [m]).length ≤ 1048576 ∧ (o ++ [(⟨xn, x⟩ : Mk)]).length ≤ 2 * (k + 1) ∧ (o ++ [m] ++ [(⟨xn, x⟩ : Mk)]).length ≤ 2 * (k + 1) ∧ o.length ≤ 2 * (k + 1) by simp; omega)
      clear hT hX hbl HF u0 u1
      obtain ⟨u0, u1, p0, p1, -⟩ := HU.out wr HB.out
      rcases hw with ⟨t1, hp⟩ | ⟨t1, rfl, hp⟩ | ⟨t1, rfl, t2, t3, hp⟩ | ⟨t1, rfl, t2, t3, t4, hp⟩ | ⟨t1, rfl, t2, hp⟩ | ⟨t1, rfl, t2, t3, t4, hp⟩
      · rw [hp] at HNx
        rw [t1] at hE
        clear hp t1
        have hbr := HB.out
        have hor := HOw.out
        clear HB HOw
        go_wp2_with fail
        go_quiet (fail)
        have hbrq := drewN_below hbr nq
        have horq := hor.keep (drewN_below (Below.refl wr.heap.size wr) nq)
        clear u0 u1 p0 p1
        generalize wr.drewN nq = wa at hbrq horq ⊢
        clear hbr hor nq
        have HBa := Lib.hid hbrq
        have HOa := Lib.hid horq
        clear hbrq horq
        obtain ⟨u0, u1, p0, p1, -⟩ := HU.out wa HBa.out
        go_wp2_with fail
        go_roundw
        case rel => exact ⟨k + 1, o, B, by omega, by go_num, rfl, HLn.out.2.2.2.2, HNx, HOa, HBa⟩
        case measure => simp [intOf]; omega
      · rw [hp] at HNx
        rw [t1] at hE
        clear hp t1
        have hbr := HB.out
        have hor := HOw.out
        clear HB HOw
        go_wp2_with fail
        go_quiet (fail)
        have hbrq := drewN_below hbr nq
        have horq := hor.keep (drewN_below (Below.refl wr.heap.size wr) nq)
        clear u0 u1 p0 p1
        generalize wr.drewN nq = wa at hbrq horq ⊢
        clear hbr hor nq
        have HBa := Lib.hid hbrq
        have HOa := Lib.hid horq
        clear hbrq horq
        obtain ⟨u0, u1, p0, p1, -⟩ := HU.out wa HBa.out
        have hbr := HBa.out
        have hor := HOa.out
        clear HBa HOa
        go_wp2_with fail
        go_quiet (fail)
        have hbrq := drewN_below hbr nq
        have horq := hor.keep (drewN_below (Below.refl wa.heap.size wa) nq)
        clear u0 u1 p0 p1
        generalize wa.drewN nq = wc at hbrq horq ⊢
        clear hbr hor nq
        have HBc := Lib.hid hbrq
        have HOc := Lib.hid horq
        clear hbrq horq
        obtain ⟨u0, u1, p0, p1, -⟩ := HU.out wc HBc.out
        have HO2 := Lib.hid (HOc.out.keep (bel_new wc (.cells #[.string T, .int .i64 x] mkE.ty)))
        have HB2 := Lib.hid (HBc.out.alloc HBc.out.size (.cells #[.string T, .int .i64 x] mkE.ty))
        have HLq := Lib.hid HLn.out.1
        go_wp2_with (at_builtin; refine wpList_append_r mkE (w0 := w1) rfl (.tmp 59) (.tmp 64) rfl _ _ rfl HO2.out HB2.out wc.heap.size ⟨xn, x⟩ 1 rfl (HC2.out wc wc.heap.size rfl) HLq.out ?_; intro v4 w4 hown2 hb4)
        go_roundw
        case rel => exact ⟨k + 1, o ++ [⟨xn, x⟩], true, by omega, by go_num, rfl, HLn.out.2.2.1, HNx, Lib.hid hown2, Lib.hid hb4⟩
        case measure => simp [intOf]; omega
      · rw [hp] at HNx
        rw [t1] at hE
        have t5 : (x == M) = false := beq_eq_false_iff_ne.2 t3
        have t6 : decide (M < x) = false := decide_eq_false t2
        clear hp t1
        have hbr := HB.out
        have hor := HOw.out
        clear HB HOw
        go_wp2_with fail
        go_quiet (fail)
        have hbrq := drewN_below hbr nq
        have horq := hor.keep (drewN_below (Below.refl wr.heap.size wr) nq)
        clear u0 u1 p0 p1
        generalize wr.drewN nq = wa at hbrq horq ⊢
        clear hbr hor nq
        have HBa := Lib.hid hbrq
        have HOa := Lib.hid horq
        clear hbrq horq
        obtain ⟨u0, u1, p0, p1, -⟩ := HU.out wa HBa.out
        have hbr := HBa.out
        have hor := HOa.out
        clear HBa HOa
        go_wp2_with fail
        go_quiet (fail)
        have hbrq := drewN_below hbr nq
        have horq := hor.keep (drewN_below (Below.refl wa.heap.size wa) nq)
        clear u0 u1 p0 p1
        generalize wa.drewN nq = wc at hbrq horq ⊢
        clear hbr hor nq
        have HBc := Lib.hid hbrq
        have HOc := Lib.hid horq
        clear hbrq horq
        obtain ⟨u0, u1, p0, p1, -⟩ := HU.out wc HBc.out
        have HO2 := Lib.hid (HOc.out.keep (bel_new wc (.cells #[.string T, .int .i64 x] mkE.ty)))
        have HB2 := Lib.hid (HBc.out.alloc HBc.out.size (.cells #[.string T, .int .i64 x] mkE.ty))
        have HLq := Lib.hid HLn.out.1
        go_wp2_with (at_builtin; refine wpList_append_r mkE (w0 := w1) rfl (.tmp 59) (.tmp 64) rfl _ _ rfl HO2.out HB2.out wc.heap.size ⟨xn, x⟩ 1 rfl (HC2.out wc wc.heap.size rfl) HLq.out ?_; intro v4 w4 hown2 hb4)
        go_roundw
        case rel => exact ⟨k + 1, o ++ [⟨xn, x⟩], false, by omega, by go_num, rfl, HLn.out.2.2.1, HNx, Lib.hid hown2, Lib.hid hb4⟩
        case measure => simp [intOf]; omega
      · rw [hp] at HNx
        rw [t1] at hE
        have t5 : (x == M) = true := beq_iff_eq.2 t3
        have t6 : decide (M < x) = false := decide_eq_false t2
        rw [t4] at hM
        clear t3
        clear hp t1
        have hbr := HB.out
        have hor := HOw.out
        clear HB HOw
        go_wp2_with fail
        go_quiet (fail)
        have hbrq := drewN_below hbr nq
        have horq := hor.keep (drewN_below (Below.refl wr.heap.size wr) nq)
        clear u0 u1 p0 p1
        generalize wr.drewN nq = wa at hbrq horq ⊢
        clear hbr hor nq
        have HBa := Lib.hid hbrq
        have HOa := Lib.hid horq
        clear hbrq horq
        obtain ⟨u0, u1, p0, p1, -⟩ := HU.out wa HBa.out
        have hbr := HBa.out
        have hor := HOa.out
        clear HBa HOa
        go_wp2_with fail
        go_quiet (fail)
        have hbrq := drewN_below hbr nq
        have horq := hor.keep (drewN_below (Below.refl wa.heap.size wa) nq)
        clear u0 u1 p0 p1
        generalize wa.drewN nq = wc at hbrq horq ⊢
        clear hbr hor nq
        have HBc := Lib.hid hbrq
        have HOc := Lib.hid horq
        clear hbrq horq
        obtain ⟨u0, u1, p0, p1, -⟩ := HU.out wc HBc.out
        have HO2 := Lib.hid (HOc.out.keep (bel_new wc (.cells #[.string T, .int .i64 x] mkE.ty)))
        have HB2 := Lib.hid (HBc.out.alloc HBc.out.size (.cells #[.string T, .int .i64 x] mkE.ty))
        have HLq := Lib.hid HLn.out.1
        go_wp2_with (at_builtin; refine wpList_append_r mkE (w0 := w1) rfl (.tmp 59) (.tmp 64) rfl _ _ rfl HO2.out HB2.out wc.heap.size ⟨xn, x⟩ 1 rfl (HC2.out wc wc.heap.size rfl) HLq.out ?_; intro v4 w4 hown2 hb4)
        go_roundw
        case rel => exact ⟨k + 1, o ++ [⟨xn, x⟩], false, by omega, by go_num, rfl, HLn.out.2.2.1, HNx, Lib.hid hown2, Lib.hid hb4⟩
        case measure => simp [intOf]; omega
      · rw [hp] at HNx
        rw [t1] at hE
        have t6 : decide (M < x) = true := decide_eq_true t2
        clear hp t1
        have hbr := HB.out
        have hor := HOw.out
        clear HB HOw
        go_wp2_with fail
        go_quiet (fail)
        have hbrq := drewN_below hbr nq
        have horq := hor.keep (drewN_below (Below.refl wr.heap.size wr) nq)
        clear u0 u1 p0 p1
        generalize wr.drewN nq = wa at hbrq horq ⊢
        clear hbr hor nq
        have HBa := Lib.hid hbrq
        have HOa := Lib.hid horq
        clear hbrq horq
        obtain ⟨u0, u1, p0, p1, -⟩ := HU.out wa HBa.out
        have hbr := HBa.out
        have hor := HOa.out
        clear HBa HOa
        go_wp2_with fail
        go_quiet (fail)
        have hbrq := drewN_below hbr nq
        have horq := hor.keep (drewN_below (Below.refl wa.heap.size wa) nq)
        clear u0 u1 p0 p1
        generalize wa.drewN nq = wc at hbrq horq ⊢
        clear hbr hor nq
        have HBc := Lib.hid hbrq
        have HOc := Lib.hid horq
        clear hbrq horq
        obtain ⟨u0, u1, p0, p1, -⟩ := HU.out wc HBc.out
        have HO1 := Lib.hid (HOc.out.keep (bel_new wc (.cells #[.string S, .int .i64 M] mkE.ty)))
        have HB1 := Lib.hid (HBc.out.alloc HBc.out.size (.cells #[.string S, .int .i64 M] mkE.ty))
        have HLp := Lib.hid HLn.out.1
        have HLq := Lib.hid HLn.out.2.1
        go_wp2_with (first
          | (at_builtin; refine wpList_append_r mkE (w0 := w1) rfl (.tmp 55) (.tmp 57) rfl _ _ rfl HO1.out HB1.out wc.heap.size m 1 rfl (HC1.out wc wc.heap.size rfl) HLp.out ?_; intro v' wb hown1 hb3; clear u0 u1 p0 p1; obtain ⟨u0, u1, p0, p1, -⟩ := HU.out wb hb3)
          | (at_builtin; refine wpList_append_r mkE (w0 := w1) rfl (.tmp 59) (.tmp 64) rfl _ _ rfl (hown1.keep (bel_new wb (.cells #[.string T, .int .i64 x] mkE.ty))) (hb3.alloc hb3.size (.cells #[.string T, .int .i64 x] mkE.ty)) wb.heap.size ⟨xn, x⟩ 1 rfl (HC2.out wb wb.heap.size rfl) HLq.out ?_; intro v4 w4 hown2 hb4))
        go_roundw
        case rel => exact ⟨k + 1, o ++ [m] ++ [⟨xn, x⟩], true, by omega, by go_num, rfl, HLn.out.2.2.2.1, HNx, Lib.hid hown2, Lib.hid hb4⟩
        case measure => simp [intOf]; omega
      · rw [hp] at HNx
        rw [t1] at hE
        have t5 : (x == M) = true := beq_iff_eq.2 t3
        have t6 : decide (M < x) = false := decide_eq_false t2
        rw [t4] at hM
        clear t3
        clear hp t1
        have hbr := HB.out
        have hor := HOw.out
        clear HB HOw
        go_wp2_with fail
        go_quiet (fail)
        have hbrq := drewN_below hbr nq
        have horq := hor.keep (drewN_below (Below.refl wr.heap.size wr) nq)
        clear u0 u1 p0 p1
        generalize wr.drewN nq = wa at hbrq horq ⊢
        clear hbr hor nq
        have HBa := Lib.hid hbrq
        have HOa := Lib.hid horq
        clear hbrq horq
        obtain ⟨u0, u1, p0, p1, -⟩ := HU.out wa HBa.out
        have hbr := HBa.out
        have hor := HOa.out
        clear HBa HOa
        go_wp2_with fail
        go_quiet (fail)
        have hbrq := drewN_below hbr nq
        have horq := hor.keep (drewN_below (Below.refl wa.heap.size wa) nq)
        clear u0 u1 p0 p1
        generalize wa.drewN nq = wc at hbrq horq ⊢
        clear hbr hor nq
        have HBc := Lib.hid hbrq
        have HOc := Lib.hid horq
        clear hbrq horq
        obtain ⟨u0, u1, p0, p1, -⟩ := HU.out wc HBc.out
        have HO1 := Lib.hid (HOc.out.keep (bel_new wc (.cells #[.string S, .int .i64 M] mkE.ty)))
        have HB1 := Lib.hid (HBc.out.alloc HBc.out.size (.cells #[.string S, .int .i64 M] mkE.ty))
        have HLp := Lib.hid HLn.out.1
        have HLq := Lib.hid HLn.out.2.1
        go_wp2_with (first
          | (at_builtin; refine wpList_append_r mkE (w0 := w1) rfl (.tmp 55) (.tmp 57) rfl _ _ rfl HO1.out HB1.out wc.heap.size m 1 rfl (HC1.out wc wc.heap.size rfl) HLp.out ?_; intro v' wb hown1 hb3; clear u0 u1 p0 p1; obtain ⟨u0, u1, p0, p1, -⟩ := HU.out wb hb3)
          | (at_builtin; refine wpList_append_r mkE (w0 := w1) rfl (.tmp 59) (.tmp 64) rfl _ _ rfl (hown1.keep (bel_new wb (.cells #[.string T, .int .i64 x] mkE.ty))) (hb3.alloc hb3.size (.cells #[.string T, .int .i64 x] mkE.ty)) wb.heap.size ⟨xn, x⟩ 1 rfl (HC2.out wb wb.heap.size rfl) HLq.out ?_; intro v4 w4 hown2 hb4))
        go_roundw
        case rel => exact ⟨k + 1, o ++ [m] ++ [⟨xn, x⟩], true, by omega, by go_num, rfl, HLn.out.2.2.2.1, HNx, Lib.hid hown2, Lib.hid hb4⟩
        case measure => simp [intOf]; omega
    · have d1 : decide ((k : Int) < (n : Int)) = false := decide_eq_false (by omega)
      have HX := Lib.hid (show putM L m = putME m (o, B) by
        have h := HF.out
        rw [List.take_of_length_le (by rw [HN.out]; omega)] at h
        unfold putM
        rw [h])
      have hol2 : o.length ≤ 1048576 := by omega
      have HBw := Lib.hid (HW.out.trans (HB.out.mono HW.out.size))
      have p0 := (HP.out.keep HB.out).c0
      have p1 := (HP.out.keep HB.out).c1
      cases B with
      | true =>
        have HR := Lib.hid (show AnsR mkE w.heap.size wr u5 (putM L m) by rw [HX.out]; exact HOw.out.ans.low HW.out.size)
        go_wp2_with fail
        go_ret
        exact ⟨_, rfl, HR.out, HBw.out⟩
      | false =>
        have HO1 := Lib.hid (HOw.out.keep (bel_new wr (.cells #[.string S, .int .i64 M] mkE.ty)))
        have HBa := Lib.hid (HB.out.alloc HB.out.size (.cells #[.string S, .int .i64 M] mkE.ty))
        have HC1 := Lib.hid (rec_new mkE wr wr.heap.size m #[.string S, .int .i64 M] (by rw [HSe.out]) rfl)
        go_wp2_with (at_builtin; refine wpList_append_r mkE (w0 := w1) rfl (.tmp 68) (.tmp 70) rfl _ _ rfl HO1.out HBa.out wr.heap.size m 1 rfl HC1.out hol2 ?_; intro v' w3 hown1 hb3)
        have HR := Lib.hid (show AnsR mkE w.heap.size w3 v' (putM L m) by rw [HX.out]; exact hown1.ans.low HW.out.size)
        have HBf := Lib.hid (HW.out.trans (hb3.mono HW.out.size))
        go_wp2_with fail
        go_ret
        exact ⟨_, rfl, HR.out, HBf.out⟩

end Go.Proofs.Ytbcjgkedlapmhaa.RefV
