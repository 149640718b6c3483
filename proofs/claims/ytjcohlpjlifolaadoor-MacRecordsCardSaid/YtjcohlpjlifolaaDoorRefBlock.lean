/-
  What the document's own block comes to: what eight words become by 64 bytes.
-/
import Derived.Test.YtjcohlpjlifolaaDoorRefTurn
import Derived.Test.YtjcohlpjlifolaaDoorQuietTail
import Derived.Test.YtjcohlpjlifolaaDoorShaSpread
import Derived.Test.YtjcohlpjlifolaaDoorShaBlock
import Derived.Test.YtjcohlpjlifolaaDoorShaPad
namespace Go.Proofs.YtjcohlpjlifolaaDoor.RefT
open Go.RowKit Kit ShaMath ShaT
set_option linter.unusedVariables false
set_option maxRecDepth 100000

theorem bs_cell {w : World} {b off : Nat} {r : List UInt8} (h : Bs w (some ⟨b, off, none⟩) r) (j : Nat) (hj : j < r.length) : w.cell? ⟨b, off + j, none⟩ = some (.int .u8 (byte r j : Int)) := by
  obtain ⟨b', off', e, -, hc⟩ := h (by omega)
  injection e with e
  injection e with e1 e2
  subst e1 e2
  rw [hc j hj]
  unfold byte
  rw [List.getD_eq_getElem?_getD, List.getElem?_eq_getElem hj]
  rfl
theorem odd_x (x : Nat) (w : World) (hx : x < 4294967296) : Calls Tryd.prog 57 #[.int .u64 (rot x 7 : Int), .int .u64 (rot x 18 : Int), .int .u64 ((x : Int) / 8)] w fun e w' => e = .returned (.int .u64 (smallX x : Int)) ∧ w' = w := by
  have h := odd_any (rot x 7) (rot x 18) (x / 8) w (rot_lt _ _ hx (by decide)) (rot_lt _ _ hx (by decide)) (by omega)
  rw [show ((x / 8 : Nat) : Int) = (x : Int) / 8 by omega] at h
  exact h.mono fun _ _ ⟨he, hw⟩ => ⟨he, hw.symm⟩
theorem odd_y (x : Nat) (w : World) (hx : x < 4294967296) : Calls Tryd.prog 57 #[.int .u64 (rot x 17 : Int), .int .u64 (rot x 19 : Int), .int .u64 ((x : Int) / 1024)] w fun e w' => e = .returned (.int .u64 (smallY x : Int)) ∧ w' = w := by
  have h := odd_any (rot x 17) (rot x 19) (x / 1024) w (rot_lt _ _ hx (by decide)) (rot_lt _ _ hx (by decide)) (by omega)
  rw [show ((x / 1024 : Nat) : Int) = (x : Int) / 1024 by omega] at h
  exact h.mono fun _ _ ⟨he, hw⟩ => ⟨he, hw.symm⟩
theorem odd_e (x : Nat) (w : World) (hx : x < 4294967296) : Calls Tryd.prog 57 #[.int .u64 (rot x 6 : Int), .int .u64 (rot x 11 : Int), .int .u64 (rot x 25 : Int)] w fun e w' => e = .returned (.int .u64 (bigE x : Int)) ∧ w' = w :=
  (odd_any (rot x 6) (rot x 11) (rot x 25) w (rot_lt _ _ hx (by decide)) (rot_lt _ _ hx (by decide)) (rot_lt _ _ hx (by decide))).mono fun _ _ ⟨he, hw⟩ => ⟨he, hw.symm⟩
theorem odd_a (x : Nat) (w : World) (hx : x < 4294967296) : Calls Tryd.prog 57 #[.int .u64 (rot x 2 : Int), .int .u64 (rot x 13 : Int), .int .u64 (rot x 22 : Int)] w fun e w' => e = .returned (.int .u64 (bigA x : Int)) ∧ w' = w :=
  (odd_any (rot x 2) (rot x 13) (rot x 22) w (rot_lt _ _ hx (by decide)) (rot_lt _ _ hx (by decide)) (rot_lt _ _ hx (by decide))).mono fun _ _ ⟨he, hw⟩ => ⟨he, hw.symm⟩
theorem whole_to (n : Int) (m : Nat) (h : n % 4294967296 = (m : Int)) (h0 : 0 ≤ n) (h1 : n ≤ 18446744073709551615) (w : World) : Calls Tryd.prog 56 #[.int .u64 n] w fun e w' => e = .returned (.int .u64 (m : Int)) ∧ w' = w := by
  rw [← h]
  exact whole_q n w h0 h1
theorem build_none (w : World) : (Instr.build 80 #[]).run Tryd.prog w = .ok (.agg (row .u64 64 fun _ => 0)) w := run_build w 80 _ _ (by kernel_rfl)
theorem rzero8_1 (W : World) (o : Obj) : Arr ((W.alloc o).alloc (.cells #[.int .u64 0, .int .u64 0, .int .u64 0, .int .u64 0, .int .u64 0, .int .u64 0, .int .u64 0, .int .u64 0] 68)) (W.heap.size + 1) .u64 8 68 (fun _ => 0) := by
  rw [show (#[.int .u64 0, .int .u64 0, .int .u64 0, .int .u64 0, .int .u64 0, .int .u64 0, .int .u64 0, .int .u64 0] : Array Value) = row .u64 8 (fun _ => 0) from rfl]
  exact Arr.new1

/-- What lies in memory. -/
structure BRel (w : World) (g : Nat) (s f : Nat → Nat) (wr : World) : Prop where
  b : Below w.heap.size w wr
  gt : w.heap.size + 1 < g
  s : Arr wr w.heap.size .u64 8 68 s
  z : Arr wr (w.heap.size + 1) .u64 8 68 (fun _ => 0)
  k : Arr wr g .u64 64 80 kAt
  r : Arr wr (g + 1) .u64 64 80 f
theorem BRel.put {w : World} {g : Nat} {s f : Nat → Nat} {wr : World} (h : BRel w g s f wr) (k v : Nat) : BRel w g s (upd f k v) (wr.setCell ⟨g + 1, k, none⟩ (.int .u64 (v : Int))) := by
  have := h.gt
  exact ⟨h.b.setCell (by simp; omega) _, h.gt, h.s.other _ _ (by simp; omega), h.z.other _ _ (by simp; omega), h.k.other _ _ (by simp), h.r.set _ _⟩
theorem BRel.drewN {w : World} {g : Nat} {s f : Nat → Nat} {wr : World} (h : BRel w g s f wr) (q : Nat) : BRel w g s f (wr.drewN q) :=
  ⟨h.b.trans ⟨rfl, rfl, rfl, Nat.le_refl _, fun _ _ => rfl⟩, h.gt, h.s.drewN q, h.z.drewN q, h.k.drewN q, h.r.drewN q⟩
theorem four_sum (r : List UInt8) (k : Nat) (h : k < 16) : (byte r (4 * k) : Int) * 16777216 + (byte r (4 * k + 1) : Int) * 65536 + (byte r (4 * k + 2) : Int) * 256 + (byte r (4 * k + 3) : Int) = (wAt r k : Int) := by
  rw [wAt_first r k h]
  unfold word
  omega

theorem new_after (w1 : World) (o : Obj) (cs : Array Value) : Arr (((w1.alloc o).setRow w1.heap.size cs).alloc (.cells (row .u64 64 fun _ => 0) 80)) (w1.heap.size + 1) .u64 64 80 (fun _ => 0) := by
  have h := Arr.new (w := (w1.alloc o).setRow w1.heap.size cs) (n := 64) (k := .u64) (t := 80) (f := fun _ => 0)
  rwa [show ((w1.alloc o).setRow w1.heap.size cs).heap.size = w1.heap.size + 1 by simp] at h
theorem brel_start {w w1 : World} {s : Nat → Nat} (hb : Below w.heap.size w w1) (hgt : w.heap.size + 1 < w1.heap.size) (hS : Arr w1 w.heap.size .u64 8 68 s) (hZ : Arr w1 (w.heap.size + 1) .u64 8 68 (fun _ => 0)) :
    BRel w w1.heap.size s (fun _ => 0) ((((w1.alloc (.cells (row .u64 64 fun _ => 0) 80)).setRow w1.heap.size (row .u64 64 kAt)).alloc (.cells (row .u64 64 fun _ => 0) 80)).setRow (w1.heap.size + 1) (row .u64 64 fun _ => 0)) := by
  have hs := hb.size
  exact ⟨below_setRow ((below_setRow (hb.alloc hs _) hs _).alloc (by simp; omega) _) (by omega) _, hgt,
    (((hS.al _).setRow_ne _ (by omega)).al _).setRow_ne _ (by omega), (((hZ.al _).setRow_ne _ (by omega)).al _).setRow_ne _ (by omega),
    ((Arr.new.setRow _).al _).setRow_ne _ (by omega), (new_after _ _ _).setRow _⟩

theorem u64_and_small (a b : Nat) (ha : a < 4294967296) (hb : b < 4294967296) : bits .and .u64 (a : Int) (b : Int) = ((a &&& b : Nat) : Int) := u64_and_nat _ _ (by omega) (by omega)
theorem u64_or_small (a b : Nat) (ha : a < 4294967296) (hb : b < 4294967296) : bits .or .u64 (a : Int) (b : Int) = ((a ||| b : Nat) : Int) := u64_or_nat _ _ (by omega) (by omega)
theorem pick64 (e f g : Nat) (he : e < 4294967296) (hf : f < 4294967296) (hg : g < 4294967296) : ∃ p1 p2 : Nat, bits .and .u64 (e : Int) (f : Int) = (p1 : Int) ∧ bits .and .u64 (4294967295 - (e : Int)) (g : Int) = (p2 : Int) ∧ (p1 : Int) + (p2 : Int) = (pick e f g : Int) ∧ p1 < 4294967296 ∧ p2 < 4294967296 :=
  ⟨e &&& f, (4294967295 - e) &&& g, u64_and_small _ _ he hf, by rw [show 4294967295 - (e : Int) = ((4294967295 - e : Nat) : Int) by omega]; exact u64_and_small _ _ (by omega) hg, by rw [← pick_add e f g he hg]; simp, and_lt _ _ he, Nat.lt_of_le_of_lt Nat.and_le_right hg⟩
theorem most64 (a b c : Nat) (ha : a < 4294967296) (hb : b < 4294967296) (hc : c < 4294967296) : bits .or .u64 (bits .or .u64 (bits .and .u64 (a : Int) (b : Int)) (bits .and .u64 (a : Int) (c : Int))) (bits .and .u64 (b : Int) (c : Int)) = (most a b c : Int) := by
  rw [u64_and_small _ _ ha hb, u64_and_small _ _ ha hc, u64_and_small _ _ hb hc, u64_or_small _ _ (and_lt _ _ ha) (and_lt _ _ ha), u64_or_small _ _ (or_lt _ _ (and_lt _ _ ha) (and_lt _ _ ha)) (and_lt _ _ hb)]
  rfl
theorem t_val (d : W8) (x y k : Nat) (h : k = (x + y) % 4294967296) : ((d.h : Int) + (bigE d.e : Int) + (pick d.e d.f d.g : Int) + (x : Int) + (y : Int)) % 4294967296 = (tt d k : Int) := by
  unfold tt
  rw [h]
  generalize bigE d.e = a
  generalize pick d.e d.f d.g = b
  omega
theorem u_val (d : W8) : ((bigA d.a : Int) + (most d.a d.b d.c : Int)) % 4294967296 = (uu d : Int) := by
  unfold uu
  generalize bigA d.a = a
  generalize most d.a d.b d.c = b
  omega
theorem kw_eq (l : List UInt8) (i : Nat) : kw l i = (kAt i + wAt l i) % 4294967296 := by rw [kw]
theorem blk_mod {s r : W8} {l : List UInt8} {f : Nat → Nat} {k : Nat} (hr : r = rounds s l 64) (hf : ∀ j, k ≤ j → f j = s.get j) : ((f k : Int) + (r.get k : Int)) % 4294967296 = ((blk s l).get k : Int) := by
  rw [blk_get, ← hr, hf k (Nat.le_refl _)]
  exact add_cast _ _
/-- A round, taken apart as it is walked. -/
theorem rnd_form (a b c d e f g h x y k : Nat) (hk : k = (x + y) % 4294967296) (ha : a < 4294967296) (hb : b < 4294967296) (hc : c < 4294967296) (he : e < 4294967296) (hf : f < 4294967296) (hg : g < 4294967296) :
    ∃ p1 p2 pp mm t u z1 z2 : Nat, bits .and .u64 (e : Int) (f : Int) = (p1 : Int) ∧ bits .and .u64 (4294967295 - (e : Int)) (g : Int) = (p2 : Int) ∧ (p1 : Int) + (p2 : Int) = (pp : Int) ∧ p1 < 4294967296 ∧ p2 < 4294967296 ∧ pp < 4294967296 ∧
      bits .or .u64 (bits .or .u64 (bits .and .u64 (a : Int) (b : Int)) (bits .and .u64 (a : Int) (c : Int))) (bits .and .u64 (b : Int) (c : Int)) = (mm : Int) ∧ mm < 4294967296 ∧
      Hid (((h : Int) + (bigE e : Int) + (pp : Int) + (x : Int) + (y : Int)) % 4294967296 = (t : Int)) ∧ Hid (((bigA a : Int) + (mm : Int)) % 4294967296 = (u : Int)) ∧ t < 4294967296 ∧ u < 4294967296 ∧
      Hid (((t : Int) + (u : Int)) % 4294967296 = (z1 : Int)) ∧ Hid (((d : Int) + (t : Int)) % 4294967296 = (z2 : Int)) ∧ Hid (rnd ⟨a, b, c, d, e, f, g, h⟩ k = ⟨z1, a, b, c, z2, e, f, g⟩) := by
  obtain ⟨p1, p2, h1, h2, h3, h4, h5⟩ := pick64 e f g he hf hg
  exact ⟨p1, p2, pick e f g, most a b c, tt ⟨a, b, c, d, e, f, g, h⟩ k, uu ⟨a, b, c, d, e, f, g, h⟩, (tt ⟨a, b, c, d, e, f, g, h⟩ k + uu ⟨a, b, c, d, e, f, g, h⟩) % 4294967296, (d + tt ⟨a, b, c, d, e, f, g, h⟩ k) % 4294967296, h1, h2, h3, h4, h5, pick_lt e f g he hg, most64 a b c ha hb hc, most_lt a b c ha hb,
    Lib.hid (t_val ⟨a, b, c, d, e, f, g, h⟩ x y k hk), Lib.hid (u_val ⟨a, b, c, d, e, f, g, h⟩), tt_lt _ _, uu_lt _, Lib.hid (add_cast _ _), Lib.hid (add_cast _ _), Lib.hid rfl⟩
/-- What lies in memory in the rounds. -/
structure BRel3 (w : World) (g v : Nat) (s : Nat → Nat) (d : W8) (f : Nat → Nat) (wr : World) : Prop where
  o : BRel w g s f wr
  gv : g + 1 < v
  v : Arr wr v .u64 8 68 d.get
theorem BRel3.drewN {w : World} {g v : Nat} {s f : Nat → Nat} {d : W8} {wr : World} (h : BRel3 w g v s d f wr) (q : Nat) : BRel3 w g v s d f (wr.drewN q) := ⟨h.o.drewN q, h.gv, h.v.drewN q⟩
theorem BRel3.next {w : World} {g v : Nat} {s f : Nat → Nat} {d : W8} {wr : World} (h : BRel3 w g v s d f wr) (d' : W8) : BRel3 w g v s d' f (wr.setRow v (row .u64 8 d'.get)) := by
  have h1 := h.gv
  have h2 := h.o.gt
  exact ⟨⟨below_setRow h.o.b (by omega) _, h.o.gt, h.o.s.setRow_ne _ (by omega), h.o.z.setRow_ne _ (by omega), h.o.k.setRow_ne _ (by omega), h.o.r.setRow_ne _ (by omega)⟩, h.gv, h.v.setRow _⟩
theorem BRel3.sum {w : World} {g v : Nat} {s f : Nat → Nat} {d : W8} {wr : World} (h : BRel3 w g v s d f wr) (k x : Nat) : BRel3 w g v (upd s k x) d f (wr.setCell ⟨w.heap.size, k, none⟩ (.int .u64 (x : Int))) := by
  have h1 := h.gv
  have h2 := h.o.gt
  exact ⟨⟨h.o.b.setCell (by simp) _, h.o.gt, h.o.s.set _ _, h.o.z.other _ _ (by simp), h.o.k.other _ _ (by simp; omega), h.o.r.other _ _ (by simp; omega)⟩, h.gv, h.v.other _ _ (by simp; omega)⟩
theorem brel3_start {w wr : World} {g : Nat} {f : Nat → Nat} {s : W8} (h : BRel w g s.get f wr) :
    BRel3 w g wr.heap.size s.get s f ((wr.alloc (.cells #[.int .u64 0, .int .u64 0, .int .u64 0, .int .u64 0, .int .u64 0, .int .u64 0, .int .u64 0, .int .u64 0] 68)).setRow wr.heap.size (row .u64 8 s.get)) := by
  have h1 := h.r.lt
  have h2 := h.gt
  have h3 := h.b.size
  exact ⟨⟨below_setRow (h.b.alloc h3 _) h3 _, h.gt, (h.s.al _).setRow_ne _ (by omega), (h.z.al _).setRow_ne _ (by omega), (h.k.al _).setRow_ne _ (by omega), (h.r.al _).setRow_ne _ (by omega)⟩, h1, (rzero8 _).setRow _⟩

set_option maxRecDepth 100000 in
set_option maxHeartbeats 1000000 in
theorem rblock_any (s : W8) (q : Option Addr) (r : List UInt8) (c : Nat) (w : World) (hs : s.Ok) (hb : Bs w q r) (hr : r.length = 64) :
    Calls Tryd.prog 45 #[.agg (row .u64 8 s.get), .slice q 64 c] w fun e w' => e = .returned (.agg (row .u64 8 (blk s r).get)) ∧ Below w.heap.size w w' := by
  obtain ⟨hz, hn⟩ := zero_of_info info_r64
  have HN := Lib.hid hn
  clear hn
  have H8 := Lib.hid (zero_of_info info_r8).2
  have hbn := build_none
  obtain ⟨b, off, rfl, hbl, -⟩ := hb (by omega)
  have HR := Lib.hid hr
  clear hr
  go_enter Tryd.func45, Tryd.ntmps45
  go_wp2_with fail
  refine (table_any _).mono ?_
  rintro e w1 ⟨rfl, hb1⟩
  have hS1 : Arr w1 w.heap.size .u64 8 68 s.get := (Arr.new.al _).keep hb1 (by simp; omega)
  have hZ1 : Arr w1 (w.heap.size + 1) .u64 8 68 (fun _ => 0) := (rzero8_1 _ _).keep hb1 (by simp)
  have hB1 : Below w.heap.size w w1 := (below2 _ _ _).trans (hb1.mono (by simp; omega))
  have hgt : w.heap.size + 1 < w1.heap.size := by have := hb1.size; simp at this; omega
  clear hb1
  go_wp2_with (first | (with_reducible refine wpList_store_arr rfl 80 (.tmp 5) (.tmp 20) rfl w1.heap.size .u64 64 kAt rfl rfl 80 _ Arr.new HN ?_) | (with_reducible refine wpList_store_arr rfl 80 (.tmp 6) (.tmp 21) rfl (w1.heap.size + 1) .u64 64 (fun _ => 0) rfl rfl 80 (fun _ => 0) ?hA HN ?_))
  case hA => exact new_after _ _ _
  have hRel := brel_start hB1 hgt hS1 hZ1
  clear hS1 hZ1 hB1
  have HGT := Lib.hid hgt
  clear hgt
  generalize World.setRow _ _ _ = wx at hRel ⊢
  go_loopw [7] (fun i wr => ∃ k : Nat, k ≤ 16 ∧ i = .int .i64 k ∧ ∃ f, BRel w w1.heap.size s.get f wr ∧ UpTo r f k) (fun i _ => 16 - (intOf i).toNat)
  case atStart => exact ⟨0, by decide, rfl, _, hRel, fun j hj => by omega⟩
  case round =>
    obtain ⟨k, hk, rfl, f, hR, hU⟩ := hrel
    by_cases hlt : k < 16
    · have hBs := hb.keep hR.b
      have c0 := bs_cell hBs (4 * k) (by rw [HR.out]; omega)
      have c1 := bs_cell hBs (4 * k + 1) (by rw [HR.out]; omega)
      have c2 := bs_cell hBs (4 * k + 2) (by rw [HR.out]; omega)
      have c3 := bs_cell hBs (4 * k + 3) (by rw [HR.out]; omega)
      have b0 := byte_lt r (4 * k)
      have b1 := byte_lt r (4 * k + 1)
      have b2 := byte_lt r (4 * k + 2)
      have b3 := byte_lt r (4 * k + 3)
      clear hBs
      go_wp2_with fail
      refine wp_region_quiet_tail_lit 35 (by kernel_rfl) (by kernel_rfl) ?_
      simp only [List.take_succ_cons, List.take_zero, List.drop_succ_cons, List.drop_zero]
      repeat (go_big_quiet_step (fail))
      refine wpQuiet_nil ?_
      rintro _ ⟨nq, rfl⟩
      have hRd := hR.drewN nq
      clear c0 c1 c2 c3 hR
      generalize wr.drewN nq = w2 at hRd ⊢
      have c1 := hRd.r.at_ k (by omega)
      have z1 := hRd.r.frz k
      have HV := Lib.hid (four_sum r k hlt)
      go_wp2_with fail
      go_roundw
      case rel => exact ⟨k + 1, by omega, by go_num, _, by rw [HV.out]; exact hRd.put k _, hU.next⟩
      case measure => simp [intOf]; omega
    · obtain rfl : k = 16 := by omega
      rw [show ((16 : Nat) : Int) = 16 from rfl]
      go_wp2_with fail
      go_loopw [8] (fun i wr => ∃ k : Nat, 16 ≤ k ∧ k ≤ 64 ∧ i = .int .i64 k ∧ ∃ f, BRel w w1.heap.size s.get f wr ∧ UpTo r f k) (fun i _ => 64 - (intOf i).toNat)
      case atStart => exact ⟨16, by decide, by decide, rfl, f, hR, hU⟩
      case round =>
        obtain ⟨k, hk0, hk, rfl, f, hR, hU⟩ := hrel
        by_cases hlt : k < 64
        · have c15 := hR.r.at_ (k - 15) (by omega)
          have c2 := hR.r.at_ (k - 2) (by omega)
          have c7 := hR.r.at_ (k - 7) (by omega)
          have c16 := hR.r.at_ (k - 16) (by omega)
          rw [hU (k - 15) (by omega)] at c15
          rw [hU (k - 2) (by omega)] at c2
          rw [hU (k - 7) (by omega)] at c7
          rw [hU (k - 16) (by omega)] at c16
          have hnext := next_of r k hk0 hlt
          have l15 := wAt_lt r (k - 15) (by omega)
          have l2 := wAt_lt r (k - 2) (by omega)
          have l7 := wAt_lt r (k - 7) (by omega)
          have l16 := wAt_lt r (k - 16) (by omega)
          generalize wAt r (k - 15) = x1 at c15 l15 hnext
          generalize wAt r (k - 2) = x3 at c2 l2 hnext
          generalize wAt r (k - 7) = x2 at c7 l7 hnext
          generalize wAt r (k - 16) = x4 at c16 l16 hnext
          have HLX := Lib.hid (smallX_lt x1 l15)
          have HLY := Lib.hid (smallY_lt x3 l2)
          have HNX : Hid (((smallX x1 : Int) + (x2 : Int) + (smallY x3 : Int) + (x4 : Int)) % 4294967296 = (wAt r k : Int)) := Lib.hid (by
            rw [← hnext]
            generalize smallX x1 = y1
            generalize smallY x3 = y3
            omega)
          clear hnext
          go_wp2_with fail
          have lx := HLX.out
          have ly := HLY.out
          refine wp_region_quiet_tail_lit 28 (by kernel_rfl) (by kernel_rfl) ?_
          simp only [List.take_succ_cons, List.take_zero, List.drop_succ_cons, List.drop_zero]
          repeat (go_big_quiet_step (first | (go_at_call 58; with_reducible exact Calls.quiet_of (rturn_7 _ _ l15)) | (go_at_call 58; with_reducible exact Calls.quiet_of (rturn_18 _ _ l15)) | (go_at_call 58; with_reducible exact Calls.quiet_of (rturn_17 _ _ l2)) | (go_at_call 58; with_reducible exact Calls.quiet_of (rturn_19 _ _ l2)) | (go_at_call 57; with_reducible exact Calls.quiet_of_same (odd_x _ _ l15)) | (go_at_call 57; with_reducible exact Calls.quiet_of_same (odd_y _ _ l2)) | (go_at_call 56; with_reducible exact Calls.quiet_of_same (whole_to _ _ HNX.out (by omega) (by omega) _))))
          refine wpQuiet_nil ?_
          rintro _ ⟨nq, rfl⟩
          have hRd := hR.drewN nq
          clear c15 c2 c7 c16 hR lx ly l15 l2 l7 l16 HLX HLY HNX
          generalize wr.drewN nq = w2 at hRd ⊢
          have c1 := hRd.r.at_ k hlt
          have z1 := hRd.r.frz k
          go_wp2_with fail
          go_roundw
          case rel => exact ⟨k + 1, by omega, by omega, by go_num, _, hRd.put k _, hU.next⟩
          case measure => simp [intOf]; omega
        · obtain rfl : k = 64 := by omega
          have hRw : BRel w w1.heap.size s.get (wAt r) wr := ⟨hR.b, hR.gt, hR.s, hR.z, hR.k, hR.r.congr fun j hj => hU j hj⟩
          clear hR hU
          rw [show ((64 : Nat) : Int) = 64 from rfl]
          go_wp2_with (first | (with_reducible refine wpList_load_arr rfl 68 (.tmp 2) rfl w.heap.size rfl .u64 8 68 s.get hRw.s _ Tryd.underlying68 rfl H8 ?_) | (with_reducible refine wpList_store_arr rfl 68 (.tmp 11) (.tmp 101) rfl wr.heap.size .u64 8 s.get rfl rfl 68 _ (rzero8 _) H8 ?_))
          have hV := brel3_start hRw
          have hgr : w1.heap.size + 1 < wr.heap.size := hRw.r.lt
          clear hRw
          generalize World.setRow _ _ _ = w2 at hV ⊢
          generalize wr.heap.size = gv at hV hgr ⊢
          go_loopw [12] (fun i wz => ∃ k : Nat, k ≤ 64 ∧ i = .int .i64 k ∧ BRel3 w w1.heap.size gv s.get (rounds s r k) (wAt r) wz) (fun i _ => 64 - (intOf i).toNat)
          case atStart => exact ⟨0, by decide, rfl, hV⟩
          case round =>
            obtain ⟨k, hk, rfl, hR⟩ := hrel
            by_cases hlt : k < 64
            · have HO := rounds_ok hs r k
              have HS := Lib.hid (ShaMath.rounds_succ s r k)
              have ck := hR.o.k.at_ k hlt
              have cw := hR.o.r.at_ k hlt
              have lk := kAt_lt k
              have lw := wAt_lt r k hlt
              have HKW := Lib.hid (kw_eq r k)
              generalize rounds s r k = dd at hR HO HS
              generalize kAt k = x5 at ck lk HKW
              generalize wAt r k = x6 at cw lw HKW
              generalize kw r k = kk at HS HKW
              obtain ⟨a, b2, c2, d2, e2, f2, g2, h2⟩ := dd
              obtain ⟨la, lb, lc, ld, le, lf, lg, lh⟩ := HO
              simp only at la lb lc ld le lf lg lh
              have v0 : wr.cell? ⟨_, 0, none⟩ = some (.int .u64 (a : Int)) := hR.v.at_ 0 (by decide)
              have v1 : wr.cell? ⟨_, 1, none⟩ = some (.int .u64 (b2 : Int)) := hR.v.at_ 1 (by decide)
              have v2 : wr.cell? ⟨_, 2, none⟩ = some (.int .u64 (c2 : Int)) := hR.v.at_ 2 (by decide)
              have v4 : wr.cell? ⟨_, 4, none⟩ = some (.int .u64 (e2 : Int)) := hR.v.at_ 4 (by decide)
              have v5 : wr.cell? ⟨_, 5, none⟩ = some (.int .u64 (f2 : Int)) := hR.v.at_ 5 (by decide)
              have v6 : wr.cell? ⟨_, 6, none⟩ = some (.int .u64 (g2 : Int)) := hR.v.at_ 6 (by decide)
              have v7 : wr.cell? ⟨_, 7, none⟩ = some (.int .u64 (h2 : Int)) := hR.v.at_ 7 (by decide)
              obtain ⟨p1, p2, pp, mm, t1, u1, z1, z2, hp1, hp2, hp3, hp4, hp5, lp, hm, lm, HT, HU, lt1, lu1, HZ1, HZ2, HN2⟩ := rnd_form a b2 c2 d2 e2 f2 g2 h2 x5 x6 kk HKW.out la lb lc le lf lg
              have lE := bigE_lt e2 le
              have lA := bigA_lt a la
              go_wp2_with fail
              clear hp1 hp2 hp3 hp4 hp5 hm
              go_quiet (first | (go_at_call 58; with_reducible exact Calls.quiet_of (rturn_6 _ _ le)) | (go_at_call 58; with_reducible exact Calls.quiet_of (rturn_11 _ _ le)) | (go_at_call 58; with_reducible exact Calls.quiet_of (rturn_25 _ _ le)) | (go_at_call 57; with_reducible exact Calls.quiet_of_same (odd_e _ _ le)) | (go_at_call 56; with_reducible exact Calls.quiet_of_same (whole_to _ _ HT.out (by omega) (by omega) _)))
              have hR1 := hR.drewN nq
              clear hR v0 v1 v2 v4 v5 v6 v7 ck cw HT lE
              generalize wr.drewN nq = w3 at hR1 ⊢
              go_wp2_with fail
              refine (rturn_2 a _ la).mono ?_
              rintro e w' ⟨rfl, q1, rfl⟩
              have hR := hR1.drewN q1
              clear hR1
              generalize w3.drewN q1 = w4 at hR ⊢
              go_wp2_with fail
              refine (rturn_13 a _ la).mono ?_
              rintro e w' ⟨rfl, q1, rfl⟩
              have hR1 := hR.drewN q1
              clear hR
              generalize w4.drewN q1 = w5 at hR1 ⊢
              go_wp2_with fail
              refine (rturn_22 a _ la).mono ?_
              rintro e w' ⟨rfl, q1, rfl⟩
              have hR := hR1.drewN q1
              clear hR1
              generalize w5.drewN q1 = w6 at hR ⊢
              go_wp2_with fail
              refine (odd_a a _ la).mono ?_
              rintro e w' ⟨rfl, rfl⟩
              go_wp2_with fail
              refine (whole_to _ _ HU.out (by omega) (by omega) _).mono ?_
              rintro e w' ⟨rfl, rfl⟩
              clear HU lA
              have v1 : w'.cell? ⟨_, 1, none⟩ = some (.int .u64 (b2 : Int)) := hR.v.at_ 1 (by decide)
              have v2 : w'.cell? ⟨_, 2, none⟩ = some (.int .u64 (c2 : Int)) := hR.v.at_ 2 (by decide)
              have v3 : w'.cell? ⟨_, 3, none⟩ = some (.int .u64 (d2 : Int)) := hR.v.at_ 3 (by decide)
              have v5 : w'.cell? ⟨_, 5, none⟩ = some (.int .u64 (f2 : Int)) := hR.v.at_ 5 (by decide)
              have v6 : w'.cell? ⟨_, 6, none⟩ = some (.int .u64 (g2 : Int)) := hR.v.at_ 6 (by decide)
              go_wp2_with fail
              refine wp_region_quiet_tail_lit 20 (by kernel_rfl) (by kernel_rfl) ?_
              simp only [List.take_succ_cons, List.take_zero, List.drop_succ_cons, List.drop_zero]
              repeat (go_big_quiet_step (first | (go_at_call 56; with_reducible exact Calls.quiet_of_same (whole_to _ _ HZ1.out (by omega) (by omega) _)) | (go_at_call 56; with_reducible exact Calls.quiet_of_same (whole_to _ _ HZ2.out (by omega) (by omega) _))))
              refine wpQuiet_nil ?_
              rintro _ ⟨nq, rfl⟩
              have hR2 := hR.drewN nq
              clear hR v1 v2 v3 v5 v6 HZ1 HZ2
              generalize w'.drewN nq = w7 at hR2 ⊢
              go_wp2_with (refine wpList_store_arr rfl 68 (.tmp 11) (.tmp 185) rfl _ .u64 8 (W8.get ⟨z1, a, b2, c2, z2, e2, f2, g2⟩) rfl rfl 68 _ hR2.v H8 ?_)
              go_roundw
              case rel => exact ⟨k + 1, by omega, by go_num, by rw [HS.out, HN2.out]; exact hR2.next _⟩
              case measure => simp [intOf]; omega
            · obtain rfl : k = 64 := by omega
              have HRO := Lib.hid (rounds_ok hs r 64)
              obtain ⟨rr, hrr⟩ : ∃ rr, rr = rounds s r 64 := ⟨_, rfl⟩
              rw [← hrr] at hR HRO
              have HRR := Lib.hid hrr
              clear hrr
              have HSO := Lib.hid hs
              rw [show ((64 : Nat) : Int) = 64 from rfl]
              go_wp2_with fail
              go_loopw [19] (fun i wy => ∃ k : Nat, k ≤ 8 ∧ i = .int .i64 k ∧ ∃ f, BRel3 w w1.heap.size gv f rr (wAt r) wy ∧ (∀ j, k ≤ j → f j = s.get j) ∧ (∀ j, j < k → f j = (blk s r).get j)) (fun i _ => 8 - (intOf i).toNat)
              case atStart => exact ⟨0, by decide, rfl, s.get, hR, fun j _ => rfl, fun j hj => by omega⟩
              case round =>
                obtain ⟨k, hk, rfl, f, hF, hf1, hf2⟩ := hrel
                have HF1 := Lib.hid hf1
                have HF2 := Lib.hid hf2
                by_cases hlt : k < 8
                · have c1 := hF.o.s.at_ k hlt
                  have c2 := hF.v.at_ k hlt
                  have HV := Lib.hid (blk_mod HRR.out hf1)
                  have lf : f k < 4294967296 := by rw [hf1 k (Nat.le_refl _)]; exact HSO.out.get k
                  have lr : rr.get k < 4294967296 := HRO.out.get k
                  clear hf1 hf2
                  generalize hfk : f k = fk at c1 HV lf
                  generalize rr.get k = rk at c2 HV lr
                  clear hfk
                  go_wp2_with fail
                  refine wp_region_quiet_tail_lit 10 (by kernel_rfl) (by kernel_rfl) ?_
                  simp only [List.take_succ_cons, List.take_zero, List.drop_succ_cons, List.drop_zero]
                  repeat (go_big_quiet_step ((go_at_call 56; with_reducible exact Calls.quiet_of_same (whole_to _ _ HV.out (by omega) (by omega) _))))
                  refine wpQuiet_nil ?_
                  rintro _ ⟨nq, rfl⟩
                  have hRd := hF.drewN nq
                  clear c1 c2 hF HV
                  generalize World.drewN _ nq = w8 at hRd ⊢
                  have c1 := hRd.o.s.at_ k hlt
                  have z1 := hRd.o.s.frz k
                  go_wp2_with fail
                  go_roundw
                  case rel => exact ⟨k + 1, by omega, by go_num, _, hRd.sum k _, fun j hj => by rw [upd_other _ _ _ _ (by omega)]; exact HF1.out j (by omega), fun j hj => by
                    by_cases e : j = k
                    · subst e; exact upd_same _ _ _
                    · rw [upd_other _ _ _ _ e]; exact HF2.out j (by omega)⟩
                  case measure => simp [intOf]; omega
                · have hs2 := hF.o.s.congr fun j hj => hf2 j (by omega)
                  have HB := Lib.hid hF.o.b
                  have hZ := hF.o.z
                  clear hf1 hf2 HF1 HF2 hF
                  go_wp2_with (first | (with_reducible refine wpList_load_arr rfl 68 (.tmp 2) rfl w.heap.size rfl .u64 8 68 (blk s r).get hs2 _ Tryd.underlying68 rfl H8 ?_) | (with_reducible refine wpList_store_arr rfl 68 (.tmp 4) (.tmp 200) rfl (w.heap.size + 1) .u64 8 (blk s r).get rfl rfl 68 _ hZ H8 ?_))
                  exact bodyPost_ret (results_arr rfl _ _ (w.heap.size + 1) 68 .u64 8 (blk s r).get _ rfl (hZ.setRow _) Tryd.underlying68 rfl H8) rfl ⟨rfl, below_setRow HB.out (by omega) _⟩

end Go.Proofs.YtjcohlpjlifolaaDoor.RefT
