/-
  What the document's own Sum comes to, and when two arrays are the same.
-/
import Derived.Test.YtjcohlpjlifolaaDoorRefPad
import Derived.Test.YtjcohlpjlifolaaDoorUnhexWalk
namespace Go.Proofs.YtjcohlpjlifolaaDoor.RefT
open Go.RowKit Kit ShaMath ShaT HexW
set_option linter.unusedVariables false
set_option maxRecDepth 100000

/-- A whole array taken, as one of several quiet operations. -/
theorem quiet_load_arr {P : Program} {o : Oper} {a : Act} {w : World} {K : Act → Prop} (ty : TypeId) (x : Operand) (ho : o.op = .load ty x)
    (g : Nat) (hx : a.eval x = .pointer (some ⟨g, 0, none⟩)) (k : IntKind) (n : Nat) (t : TypeId) (f : Nat → Nat) (hA : Arr w g k n t f) (d : TypeDesc)
    (hu : P.underlying ty = some d) (hd : (match d with | .struct _ | .array _ _ => true | _ => false) = true) (hi : Hid ((P.info? ty).map (·.size) = some n))
    (h : K (a.put o.dst (.agg (row k n f)))) : o.quiet P a (fun w' => ∃ q, w' = w.drewN q) K := by
  refine ⟨_, ?_, h⟩
  rintro _ ⟨q, rfl⟩
  unfold Oper.quietAt execOp
  simp only [ho, hx, Instr.loadAt, Instr.sureAddr, Sem.run_bind, Sem.run_pure, Result.andThen_ok, run_loadVar_row (w.drewN q) g t ty _ (0, 0) d (hA.drewN q) hu hd (by rw [hi.out, row_size])]
  exact ⟨rfl, rfl⟩
theorem own_cap {w : World} {base n g c : Nat} {xs : List Value} (h : w.ownsRow base 5 1 (.slice (some ⟨g, 0, none⟩) n c) n xs) : n ≤ c ∧ c ≤ 9223372036854775807 := by
  rcases h.2 with ⟨e, _⟩ | ⟨g', cap, cur, e, _, _, h1, h2, _⟩
  · injection e with e1
    cases e1
  · injection e with _ _ e3
    subst e3
    exact ⟨h1, by unfold maxLen at h2; omega⟩
theorem bs_setRow {w : World} {b off c : Nat} {cs : Array Value} {l : List UInt8} (h : Bs w (some ⟨b, off, none⟩) l) (hne : b ≠ c) : Bs (w.setRow c cs) (some ⟨b, off, none⟩) l := by
  intro h0
  obtain ⟨b', off', e, hl, hc⟩ := h h0
  injection e with e
  injection e with e1 e2
  subst e1 e2
  refine ⟨b, off, rfl, by rw [setRow_size]; exact hl, fun j hj => ?_⟩
  rw [cell_setRow_other w c cs ⟨b, off + j, none⟩ hne]
  exact hc j hj
theorem bs_lt {w : World} {b off : Nat} {l : List UInt8} (h : Bs w (some ⟨b, off, none⟩) l) (h0 : 0 < l.length) : b < w.heap.size := by
  obtain ⟨b', off', e, hl, _⟩ := h h0
  injection e with e
  injection e with e1 e2
  subst e1
  exact hl
theorem own_bs' {w : World} {base n g c : Nat} {l : List UInt8} (h : w.ownsRow base 5 1 (.slice (some ⟨g, 0, none⟩) n c) n (bv l)) : Bs w (some ⟨g, 0, none⟩) l := by
  obtain ⟨p, c', e, hb⟩ := own_bs h
  injection e with e1 _ _
  rw [e1]
  exact hb
theorem cut_run (g n c m : Nat) (hm : m + 64 ≤ c) (W : World) : (Instr.slice 22 (.slice (some ⟨g, 0, none⟩) n c) (some (.int .i64 (m : Int))) (some (.int .i64 ((m : Int) + 64))) none).run Tryd.prog W = .ok (.slice (some ⟨g, m, none⟩) 64 (c - m)) W := by
  have h := Lib.run_slice_window (P := Tryd.prog) W 22 5 Tryd.underlying22 size_u8 g 0 n c m (m + 64) (by omega) hm
  rw [show ((m + 64 : Nat) : Int) = (m : Int) + 64 by omega, show m + 64 - m = 64 by omega, Nat.zero_add] at h
  exact h
theorem build_32 (w : World) : (Instr.build 25 #[]).run Tryd.prog w = .ok (.agg (row .u8 32 fun _ => 0)) w := run_build w 25 _ _ (by kernel_rfl)

/-- What lies in memory. -/
structure SRel (w : World) (g : Nat) (s : W8) (wr : World) : Prop where
  b : Below w.heap.size w wr
  gt : w.heap.size < g
  z : Arr wr w.heap.size .u8 32 25 (fun _ => 0)
  s : Arr wr g .u64 8 68 s.get
theorem SRel.drewN {w : World} {g : Nat} {s : W8} {wr : World} (h : SRel w g s wr) (q : Nat) : SRel w g s (wr.drewN q) := ⟨h.b.trans ⟨rfl, rfl, rfl, Nat.le_refl _, fun _ _ => rfl⟩, h.gt, h.z.drewN q, h.s.drewN q⟩
theorem SRel.keep {w : World} {g : Nat} {s : W8} {wr w' : World} (h : SRel w g s wr) (hb : Below wr.heap.size wr w') : SRel w g s w' := ⟨h.b.trans (hb.mono h.b.size), h.gt, h.z.keep hb h.z.lt, h.s.keep hb h.s.lt⟩
theorem SRel.words {w : World} {g : Nat} {s : W8} {wr : World} (h : SRel w g s wr) (s' : W8) : SRel w g s' (wr.setRow g (row .u64 8 s'.get)) := by
  have := h.gt
  exact ⟨below_setRow h.b (by omega) _, h.gt, h.z.setRow_ne _ (by omega), h.s.setRow _⟩
/-- The same, and the array that is being told. -/
structure SRel2 (w : World) (g gt : Nat) (s : W8) (f : Nat → Nat) (wr : World) : Prop where
  b : Below w.heap.size w wr
  gs : w.heap.size < g
  lt : g < gt
  z : Arr wr w.heap.size .u8 32 25 (fun _ => 0)
  s : Arr wr g .u64 8 68 s.get
  t : Arr wr gt .u8 32 25 f
theorem tb_int (s : W8) (k : Nat) : ((s.get (k / 4) : Int) / 2 ^ (24 - 8 * (k % 4))).tmod 256 % 256 = ((tb s k : Nat) : Int) := by
  unfold tb
  rw [Int.tmod_eq_emod_of_nonneg (Int.ediv_nonneg (by omega) (Int.pow_nonneg (by decide))), Int.emod_emod]
  simp
theorem SRel2.told {w : World} {g gt : Nat} {s : W8} {f : Nat → Nat} {wr : World} (h : SRel2 w g gt s f wr) (k : Nat) (hv : 0 = 0) : SRel2 w g gt s (upd f k (tb s k)) (wr.setCell ⟨gt, k, none⟩ (.int .u8 ((tb s k : Nat) : Int))) := by
  have h1 := h.gs
  have h2 := h.lt
  exact ⟨h.b.setCell (by simp; omega) _, h1, h2, h.z.other _ _ (by simp; omega), h.s.other _ _ (by simp; omega), h.t.set _ _⟩
theorem Bs.cut {w : World} {b off m : Nat} {P : List UInt8} (h : Bs w (some ⟨b, off, none⟩) P) (hm : m + 64 ≤ P.length) : Bs w (some ⟨b, off + m, none⟩) ((P.drop m).take 64) := by
  intro h0
  obtain ⟨b', off', e, hl, hc⟩ := h (by omega)
  injection e with e
  injection e with e1 e2
  subst e1 e2
  refine ⟨b, off + m, rfl, hl, fun j hj => ?_⟩
  rw [List.length_take, List.length_drop] at hj
  rw [Nat.add_assoc, hc (m + j) (by omega)]
  simp
theorem cut_same (P : List UInt8) (m : Nat) (s : W8) : blk s ((P.drop m).take 64) = blk s (P.drop m) := by
  apply blk_same
  intro j hj
  unfold byte
  rw [List.getD_eq_getElem?_getD, List.getD_eq_getElem?_getD, List.getElem?_take_of_lt hj]
theorem padded_mod (l : List UInt8) : (padded l).length % 64 = 0 := by rw [padded_length]; unfold gap; omega

set_option maxHeartbeats 2000000 in
theorem rsum_any (p : Option Addr) (l : List UInt8) (cap : Nat) (w : World) (hb : Bs w p l) (hl : l.length ≤ 70368744176640) (hnil : p = none → cap = 0) :
    Calls Tryd.prog 27 #[.slice p l.length cap] w fun e w' => e = .returned (.agg (row .u8 32 (sumAt l))) ∧ Below w.heap.size w w' := by
  obtain ⟨hz, hn⟩ := zero_of_info info_32
  have HN := Lib.hid hn
  clear hn
  have H8 := Lib.hid (zero_of_info info_r8).2
  have hb32 := build_32
  unfold sumAt
  obtain ⟨s, hs⟩ : ∃ s, s = sumW l := ⟨_, rfl⟩
  rw [← hs]
  have HS := Lib.hid hs
  clear hs
  go_enter Tryd.func27, Tryd.ntmps27
  go_wp2_with fail
  refine (rpadded_any p l cap _ (hb.keep (below1 _ _)) hl hnil).mono ?_
  rintro e w1 ⟨v, rfl, hown, hb1⟩
  obtain ⟨g0, c, rfl⟩ := own_form hown (by rw [padded_length]; omega)
  have hlc : (padded l).length ≤ c ∧ c ≤ 9223372036854775807 := own_cap hown
  have hB := Lib.hid (own_bs' hown)
  have hZ1 : Arr w1 w.heap.size .u8 32 25 (fun _ => 0) := Arr.new.keep hb1 (by simp)
  have hB1 : Below w.heap.size w w1 := (below1 _ _).trans (hb1.mono (by simp))
  have hPm := padded_mod l
  obtain ⟨P, hP⟩ : ∃ P, P = padded l := ⟨_, rfl⟩
  have hPl : P.length ≤ 70368744200000 := by rw [hP, padded_length]; have := gap_le l.length; omega
  rw [← hP] at hB hlc hPm ⊢
  have hg0 : g0 < w1.heap.size := bs_lt hB.out (by rw [hP, padded_length]; omega)
  have HP := Lib.hid hP
  have HPM := Lib.hid hPm
  clear hP hown hb1 hPm
  go_wp2_with fail
  refine (first_any _).mono ?_
  rintro e w2 ⟨rfl, hb2⟩
  have hZ2 := hZ1.keep hb2 hZ1.lt
  have hB2 := hB1.trans (hb2.mono hB1.size)
  have HBP := Lib.hid (hB.out.keep hb2)
  have hgt : w.heap.size < w2.heap.size := hZ2.lt
  have hg2 : g0 < w2.heap.size := Nat.lt_of_lt_of_le hg0 hb2.size
  clear hb2 hZ1 hB hB1 hg0
  go_wp2_with (with_reducible refine wpList_store_arr rfl 68 (.tmp 4) (.tmp 10) rfl w2.heap.size .u64 8 H0.get rfl rfl 68 _ (rzero8 _) H8 ?_)
  have hS : SRel w w2.heap.size H0 ((w2.alloc (.cells #[.int .u64 0, .int .u64 0, .int .u64 0, .int .u64 0, .int .u64 0, .int .u64 0, .int .u64 0, .int .u64 0] 68)).setRow w2.heap.size (row .u64 8 H0.get)) :=
    ⟨below_setRow (hB2.alloc hB2.size _) hB2.size _, hgt, (hZ2.al _).setRow_ne _ (by omega), (rzero8 _).setRow _⟩
  have hBP : Hid (Bs ((w2.alloc (.cells #[.int .u64 0, .int .u64 0, .int .u64 0, .int .u64 0, .int .u64 0, .int .u64 0, .int .u64 0, .int .u64 0] 68)).setRow w2.heap.size (row .u64 8 H0.get)) (some ⟨g0, 0, none⟩) P) := Lib.hid (HBP.out.keep (below_setRow (below1 _ _) (Nat.le_refl _) _))
  have hsz3 : ((w2.alloc (.cells #[.int .u64 0, .int .u64 0, .int .u64 0, .int .u64 0, .int .u64 0, .int .u64 0, .int .u64 0, .int .u64 0] 68)).setRow w2.heap.size (row .u64 8 H0.get)).heap.size = w2.heap.size + 1 := by simp
  clear hZ2 hB2 HBP
  generalize World.setRow _ _ _ = w3 at hS hBP hsz3 ⊢
  generalize w2.heap.size = gs at hS hgt hsz3 hg2 ⊢
  have HS3 := Lib.hid hsz3
  clear hsz3
  go_loopw [5] (fun i wr => ∃ (k m : Nat), m = 64 * k ∧ m ≤ P.length ∧ i = .int .i64 m ∧ SRel w gs (after P k) wr ∧ Bs wr (some ⟨g0, 0, none⟩) P) (fun i _ => P.length - (intOf i).toNat)
  case atStart => exact ⟨0, 0, rfl, Nat.zero_le _, rfl, hS, hBP.out⟩
  case round =>
    obtain ⟨k, m, hmk, hm, rfl, hR, hBr⟩ := hrel
    have HMK := Lib.hid hmk
    by_cases hlt : m < P.length
    · have hm64 : m + 64 ≤ P.length := by have := HPM.out; omega
      have hsl := cut_run g0 P.length c m (by omega)
      clear hmk
      go_wp2_with fail
      refine wp_region_quiet_tail_lit 6 (by kernel_rfl) (by kernel_rfl) ?_
      simp only [List.take_succ_cons, List.take_zero, List.drop_succ_cons, List.drop_zero]
      refine wpQuiet_step (fun K hK => ?_)
      rw [if_pos (by rfl)]
      with_reducible refine quiet_load_arr 68 (.tmp 4) rfl gs rfl .u64 8 68 (W8.get (after P k)) hR.s _ Tryd.underlying68 rfl H8 ?_
      go_simp
      refine hK _ ?_
      clear hK K
      repeat (go_big_quiet_step (fail))
      refine wpQuiet_nil ?_
      rintro _ ⟨nq, rfl⟩
      have hRd := hR.drewN nq
      have hBd : Hid (Bs (wr.drewN nq) (some ⟨g0, 0, none⟩) P) := Lib.hid (hBr.keep ⟨rfl, rfl, rfl, Nat.le_refl _, fun _ _ => rfl⟩)
      clear hR hBr
      generalize wr.drewN nq = w4 at hRd hBd ⊢
      clear hsl
      go_wp2_with fail
      have hBc := Bs.cut hBd.out hm64
      rw [Nat.zero_add] at hBc
      refine (rblock_any (after P k) _ ((P.drop m).take 64) _ _ (after_ok _ _) hBc (by rw [List.length_take, List.length_drop]; omega)).mono ?_
      rintro e w5 ⟨rfl, hb5⟩
      have HA := Lib.hid (show blk (after P k) ((P.drop m).take 64) = after P (k + 1) by rw [cut_same, after_succ, HMK.out])
      rw [HA.out]
      have hR5 := hRd.keep hb5
      have hB5 := Lib.hid (hBd.out.keep hb5)
      clear hBc hb5 hRd hBd
      go_wp2_with (with_reducible refine wpList_store_arr rfl 68 (.tmp 4) (.tmp 23) rfl gs .u64 8 (W8.get (after P (k + 1))) rfl rfl 68 _ hR5.s H8 ?_)
      go_roundw
      case rel => exact ⟨k + 1, m + 64, by have := HMK.out; omega, by omega, by go_num, hR5.words _, bs_setRow hB5.out (by omega)⟩
      case measure => simp [intOf]; omega
    · obtain rfl : m = P.length := by omega
      have HSW := Lib.hid (show after P k = sumW l by unfold sumW; rw [← HP.out]; congr 1; omega)
      rw [HSW.out] at hR
      clear hBr hmk
      have hso := after_ok (padded l) ((padded l).length / 64)
      rw [← HS.out] at hR
      have hsok : s.Ok := by rw [HS.out]; exact hso
      clear HSW hso hPl hlc
      go_wp2_with (with_reducible refine wpList_store_arr rfl 25 (.tmp 6) (.tmp 24) rfl wr.heap.size .u8 32 (fun _ => 0) rfl rfl 25 _ Arr.new HN ?_)
      have hE : SRel2 w gs wr.heap.size s (fun _ => 0) ((wr.alloc (.cells (row .u8 32 fun _ => 0) 25)).setRow wr.heap.size (row .u8 32 fun _ => 0)) := by
        have h1 := hR.b.size
        have h2 := hR.s.lt
        exact ⟨below_setRow (hR.b.alloc h1 _) h1 _, hR.gt, h2, (hR.z.al _).setRow_ne _ (by have := hR.gt; omega), (hR.s.al _).setRow_ne _ (by omega), Arr.new.setRow _⟩
      clear hR
      generalize World.setRow _ _ _ = wx at hE ⊢
      generalize wr.heap.size = gt at hE ⊢
      go_loopw [7] (fun i wr => ∃ (k : Nat) (f : Nat → Nat), k ≤ 32 ∧ i = .int .i64 k ∧ SRel2 w gs gt s f wr ∧ ∀ j, j < k → f j = tb s j) (fun i _ => 32 - (intOf i).toNat)
      case atStart => exact ⟨0, _, by decide, rfl, hE, fun j hj => by omega⟩
      case round =>
        obtain ⟨k, f, hk, rfl, hR, hf⟩ := hrel
        have HF := Lib.hid hf
        clear hf hE
        by_cases hlt : k < 32
        · have c0 := hR.s.at_ (k / 4) (by omega)
          have c1 := hR.t.at_ k (by omega)
          have z1 := hR.t.frz k
          go_wp2_with fail
          go_roundw
          case rel => exact ⟨k + 1, upd f k (tb s k), by omega, by go_num, by rw [tb_int]; exact hR.told k rfl, fun j hj => by
            by_cases hjk : j = k
            · rw [hjk, upd_same]
            · rw [upd_other _ _ _ _ hjk]; exact HF.out j (by omega)⟩
          case measure => simp [intOf]; omega
        · have hR2 : SRel2 w gs gt s (tb s) wr := ⟨hR.b, hR.gs, hR.lt, hR.z, hR.s, hR.t.congr fun j hj => HF.out j (by omega)⟩
          clear HF hR
          go_wp2_with (first | (with_reducible refine wpList_load_arr rfl 25 (.tmp 6) rfl gt rfl .u8 32 25 (tb s) hR2.t _ Tryd.underlying25 rfl HN ?_) | (with_reducible refine wpList_store_arr rfl 25 (.tmp 2) (.tmp 42) rfl w.heap.size .u8 32 (tb s) rfl rfl 25 _ hR2.z HN ?_))
          exact bodyPost_ret (results_arr rfl _ _ w.heap.size 25 .u8 32 (tb s) _ rfl (hR2.z.setRow _) Tryd.underlying25 rfl HN) rfl ⟨rfl, below_setRow hR2.b (by omega) _⟩

end Go.Proofs.YtjcohlpjlifolaaDoor.RefT
