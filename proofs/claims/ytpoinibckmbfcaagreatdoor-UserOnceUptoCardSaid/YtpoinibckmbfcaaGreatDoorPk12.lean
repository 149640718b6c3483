/-
  Packed by program.
-/
import Derived.Test.YtpoinibckmbfcaaGreatDoorPk11
import Derived.Test.YtpoinibckmbfcaaGreatDoorPk07
namespace Go.Proofs.YtpoinibckmbfcaaGreatDoor.RefT
open Go.RowKit Kit ShaMath ShaT
set_option linter.unusedVariables false
set_option maxRecDepth 100000
theorem bs_cell {w : World} {b off : Nat} {r : List UInt8} (h : Bs w (some ⟨b,off,none⟩) r) (j : Nat) (hj : j < r.length) : w.cell? ⟨b,off + j,none⟩ = some (.int .u8 (byte r j : Int)) := by
 obtain ⟨b',off',e,-,hc⟩ := h (by omega)
 injection e with e
 injection e with e1 e2
 subst e1 e2
 rw [hc j hj]
 unfold byte
 rw [List.getD_eq_getElem?_getD,List.getElem?_eq_getElem hj]
 rfl
theorem odd_x (x : Nat) (w : World) (hx : x < 4294967296) : Calls Tryz.prog 173 #[.int .u64 (rot x 7 : Int),.int .u64 (rot x 18 : Int),.int .u64 ((x : Int) / 8)] w fun e w' => e = .returned (.int .u64 (smallX x : Int)) ∧ w' = w := by
 have h := odd_any (rot x 7) (rot x 18) (x / 8) w (rot_lt _ _ hx (by decide)) (rot_lt _ _ hx (by decide)) (by omega)
 rw [show ((x / 8 : Nat) : Int) = (x : Int) / 8 by omega] at h
 exact h.mono fun _ _ ⟨he,hw⟩ => ⟨he,hw.symm⟩
theorem odd_y (x : Nat) (w : World) (hx : x < 4294967296) : Calls Tryz.prog 173 #[.int .u64 (rot x 17 : Int),.int .u64 (rot x 19 : Int),.int .u64 ((x : Int) / 1024)] w fun e w' => e = .returned (.int .u64 (smallY x : Int)) ∧ w' = w := by
 have h := odd_any (rot x 17) (rot x 19) (x / 1024) w (rot_lt _ _ hx (by decide)) (rot_lt _ _ hx (by decide)) (by omega)
 rw [show ((x / 1024 : Nat) : Int) = (x : Int) / 1024 by omega] at h
 exact h.mono fun _ _ ⟨he,hw⟩ => ⟨he,hw.symm⟩
theorem odd_e (x : Nat) (w : World) (hx : x < 4294967296) : Calls Tryz.prog 173 #[.int .u64 (rot x 6 : Int),.int .u64 (rot x 11 : Int),.int .u64 (rot x 25 : Int)] w fun e w' => e = .returned (.int .u64 (bigE x : Int)) ∧ w' = w :=
 (odd_any (rot x 6) (rot x 11) (rot x 25) w (rot_lt _ _ hx (by decide)) (rot_lt _ _ hx (by decide)) (rot_lt _ _ hx (by decide))).mono fun _ _ ⟨he,hw⟩ => ⟨he,hw.symm⟩
theorem odd_a (x : Nat) (w : World) (hx : x < 4294967296) : Calls Tryz.prog 173 #[.int .u64 (rot x 2 : Int),.int .u64 (rot x 13 : Int),.int .u64 (rot x 22 : Int)] w fun e w' => e = .returned (.int .u64 (bigA x : Int)) ∧ w' = w :=
 (odd_any (rot x 2) (rot x 13) (rot x 22) w (rot_lt _ _ hx (by decide)) (rot_lt _ _ hx (by decide)) (rot_lt _ _ hx (by decide))).mono fun _ _ ⟨he,hw⟩ => ⟨he,hw.symm⟩
theorem whole_to (n : Int) (m : Nat) (h : n % 4294967296 = (m : Int)) (h0 : 0 ≤ n) (h1 : n ≤ 18446744073709551615) (w : World) : Calls Tryz.prog 172 #[.int .u64 n] w fun e w' => e = .returned (.int .u64 (m : Int)) ∧ w' = w := by
 rw [← h]
 exact whole_q n w h0 h1
theorem build_none (w : World) : (Instr.build 175 #[]).run Tryz.prog w = .ok (.agg (row .u64 64 fun _ => 0)) w := run_build w 175 _ _ (by kernel_rfl)
theorem rzero8_1 (W : World) (o : Obj) : Arr ((W.alloc o).alloc (.cells #[.int .u64 0,.int .u64 0,.int .u64 0,.int .u64 0,.int .u64 0,.int .u64 0,.int .u64 0,.int .u64 0] 162)) (W.heap.size + 1) .u64 8 162 (fun _ => 0) := by
 rw [show (#[.int .u64 0,.int .u64 0,.int .u64 0,.int .u64 0,.int .u64 0,.int .u64 0,.int .u64 0,.int .u64 0] : Array Value) = row .u64 8 (fun _ => 0) from rfl]
 exact Arr.new1
structure BRel (w : World) (g : Nat) (s f : Nat → Nat) (wr : World) : Prop where
 b : Below w.heap.size w wr
 gt : w.heap.size + 1 < g
 s : Arr wr w.heap.size .u64 8 162 s
 z : Arr wr (w.heap.size + 1) .u64 8 162 (fun _ => 0)
 k : Arr wr g .u64 64 175 kAt
 r : Arr wr (g + 1) .u64 64 175 f
theorem BRel.put {w : World} {g : Nat} {s f : Nat → Nat} {wr : World} (h : BRel w g s f wr) (k v : Nat) : BRel w g s (upd f k v) (wr.setCell ⟨g + 1,k,none⟩ (.int .u64 (v : Int))) := by
 have := h.gt
 exact ⟨h.b.setCell (by simp; omega) _,h.gt,h.s.other _ _ (by simp; omega),h.z.other _ _ (by simp; omega),h.k.other _ _ (by simp),h.r.set _ _⟩
theorem BRel.drewN {w : World} {g : Nat} {s f : Nat → Nat} {wr : World} (h : BRel w g s f wr) (q : Nat) : BRel w g s f (wr.drewN q) :=
 ⟨h.b.trans ⟨rfl,rfl,rfl,Nat.le_refl _,fun _ _ => rfl⟩,h.gt,h.s.drewN q,h.z.drewN q,h.k.drewN q,h.r.drewN q⟩
theorem four_sum (r : List UInt8) (k : Nat) (h : k < 16) : (byte r (4 * k) : Int) * 16777216 + (byte r (4 * k + 1) : Int) * 65536 + (byte r (4 * k + 2) : Int) * 256 + (byte r (4 * k + 3) : Int) = (wAt r k : Int) := by
 rw [wAt_first r k h]
 unfold word
 omega
theorem new_after (w1 : World) (o : Obj) (cs : Array Value) : Arr (((w1.alloc o).setRow w1.heap.size cs).alloc (.cells (row .u64 64 fun _ => 0) 175)) (w1.heap.size + 1) .u64 64 175 (fun _ => 0) := by
 have h := Arr.new (w := (w1.alloc o).setRow w1.heap.size cs) (n := 64) (k := .u64) (t := 175) (f := fun _ => 0)
 rwa [show ((w1.alloc o).setRow w1.heap.size cs).heap.size = w1.heap.size + 1 by simp] at h
theorem brel_start {w w1 : World} {s : Nat → Nat} (hb : Below w.heap.size w w1) (hgt : w.heap.size + 1 < w1.heap.size) (hS : Arr w1 w.heap.size .u64 8 162 s) (hZ : Arr w1 (w.heap.size + 1) .u64 8 162 (fun _ => 0)) :
  BRel w w1.heap.size s (fun _ => 0) ((((w1.alloc (.cells (row .u64 64 fun _ => 0) 175)).setRow w1.heap.size (row .u64 64 kAt)).alloc (.cells (row .u64 64 fun _ => 0) 175)).setRow (w1.heap.size + 1) (row .u64 64 fun _ => 0)) := by
 have hs := hb.size
 exact ⟨below_setRow ((below_setRow (hb.alloc hs _) hs _).alloc (by simp; omega) _) (by omega) _,hgt,
   (((hS.al _).setRow_ne _ (by omega)).al _).setRow_ne _ (by omega),(((hZ.al _).setRow_ne _ (by omega)).al _).setRow_ne _ (by omega),
   ((Arr.new.setRow _).al _).setRow_ne _ (by omega),(new_after _ _ _).setRow _⟩
theorem u64_and_small (a b : Nat) (ha : a < 4294967296) (hb : b < 4294967296) : bits .and .u64 (a : Int) (b : Int) = ((a &&& b : Nat) : Int) := u64_and_nat _ _ (by omega) (by omega)
theorem u64_or_small (a b : Nat) (ha : a < 4294967296) (hb : b < 4294967296) : bits .or .u64 (a : Int) (b : Int) = ((a ||| b : Nat) : Int) := u64_or_nat _ _ (by omega) (by omega)
theorem pick64 (e f g : Nat) (he : e < 4294967296) (hf : f < 4294967296) (hg : g < 4294967296) : ∃ p1 p2 : Nat,bits .and .u64 (e : Int) (f : Int) = (p1 : Int) ∧ bits .and .u64 (4294967295 - (e : Int)) (g : Int) = (p2 : Int) ∧ (p1 : Int) + (p2 : Int) = (pick e f g : Int) ∧ p1 < 4294967296 ∧ p2 < 4294967296 :=
 ⟨e &&& f,(4294967295 - e) &&& g,u64_and_small _ _ he hf,by rw [show 4294967295 - (e : Int) = ((4294967295 - e : Nat) : Int) by omega]; exact u64_and_small _ _ (by omega) hg,by rw [← pick_add e f g he hg]; simp,and_lt _ _ he,Nat.lt_of_le_of_lt Nat.and_le_right hg⟩
theorem most64 (a b c : Nat) (ha : a < 4294967296) (hb : b < 4294967296) (hc : c < 4294967296) : bits .or .u64 (bits .or .u64 (bits .and .u64 (a : Int) (b : Int)) (bits .and .u64 (a : Int) (c : Int))) (bits .and .u64 (b : Int) (c : Int)) = (most a b c : Int) := by
 rw [u64_and_small _ _ ha hb,u64_and_small _ _ ha hc,u64_and_small _ _ hb hc,u64_or_small _ _ (and_lt _ _ ha) (and_lt _ _ ha),u64_or_small _ _ (or_lt _ _ (and_lt _ _ ha) (and_lt _ _ ha)) (and_lt _ _ hb)]
 rfl
theorem t_val (d : W8) (x y k : Nat) (h : k = (x + y) % 4294967296) : ((d.h : Int) + (bigE d.e : Int) + (pick d.e d.f d.g : Int) + (x : Int) + (y : Int)) % 4294967296 = (tt d k : Int) := by
 unfold tt
 rw [h]
 generalize bigE d.e = a
 generalize pick d.e d.f d.g = b
 omega
theorem u_val (d : W8) : ((bigA d.a : Int) + (most d.a d.b d.c : Int)) % 4294967296 = (uu d : Int) := by
 unfold uu
 generalize bigA d.a = a
 generalize most d.a d.b d.c = b
 omega
theorem kw_eq (l : List UInt8) (i : Nat) : kw l i = (kAt i + wAt l i) % 4294967296 := by rw [kw]
theorem blk_mod {s r : W8} {l : List UInt8} {f : Nat → Nat} {k : Nat} (hr : r = rounds s l 64) (hf : ∀ j,k ≤ j → f j = s.get j) : ((f k : Int) + (r.get k : Int)) % 4294967296 = ((blk s l).get k : Int) := by
 rw [blk_get,← hr,hf k (Nat.le_refl _)]
 exact add_cast _ _
theorem rnd_form (a b c d e f g h x y k : Nat) (hk : k = (x + y) % 4294967296) (ha : a < 4294967296) (hb : b < 4294967296) (hc : c < 4294967296) (he : e < 4294967296) (hf : f < 4294967296) (hg : g < 4294967296) :
  ∃ p1 p2 pp mm t u z1 z2 : Nat,bits .and .u64 (e : Int) (f : Int) = (p1 : Int) ∧ bits .and .u64 (4294967295 - (e : Int)) (g : Int) = (p2 : Int) ∧ (p1 : Int) + (p2 : Int) = (pp : Int) ∧ p1 < 4294967296 ∧ p2 < 4294967296 ∧ pp < 4294967296 ∧
    bits .or .u64 (bits .or .u64 (bits .and .u64 (a : Int) (b : Int)) (bits .and .u64 (a : Int) (c : Int))) (bits .and .u64 (b : Int) (c : Int)) = (mm : Int) ∧ mm < 4294967296 ∧
    Hid (((h : Int) + (bigE e : Int) + (pp : Int) + (x : Int) + (y : Int)) % 4294967296 = (t : Int)) ∧ Hid (((bigA a : Int) + (mm : Int)) % 4294967296 = (u : Int)) ∧ t < 4294967296 ∧ u < 4294967296 ∧
    Hid (((t : Int) + (u : Int)) % 4294967296 = (z1 : Int)) ∧ Hid (((d : Int) + (t : Int)) % 4294967296 = (z2 : Int)) ∧ Hid (rnd ⟨a,b,c,d,e,f,g,h⟩ k = ⟨z1,a,b,c,z2,e,f,g⟩) := by
 obtain ⟨p1,p2,h1,h2,h3,h4,h5⟩ := pick64 e f g he hf hg
 exact ⟨p1,p2,pick e f g,most a b c,tt ⟨a,b,c,d,e,f,g,h⟩ k,uu ⟨a,b,c,d,e,f,g,h⟩,(tt ⟨a,b,c,d,e,f,g,h⟩ k + uu ⟨a,b,c,d,e,f,g,h⟩) % 4294967296,(d + tt ⟨a,b,c,d,e,f,g,h⟩ k) % 4294967296,h1,h2,h3,h4,h5,pick_lt e f g he hg,most64 a b c ha hb hc,most_lt a b c ha hb,
   Lib.hid (t_val ⟨a,b,c,d,e,f,g,h⟩ x y k hk),Lib.hid (u_val ⟨a,b,c,d,e,f,g,h⟩),tt_lt _ _,uu_lt _,Lib.hid (add_cast _ _),Lib.hid (add_cast _ _),Lib.hid rfl⟩
structure BRel3 (w : World) (g v : Nat) (s : Nat → Nat) (d : W8) (f : Nat → Nat) (wr : World) : Prop where
 o : BRel w g s f wr
 gv : g + 1 < v
 v : Arr wr v .u64 8 162 d.get
theorem BRel3.drewN {w : World} {g v : Nat} {s f : Nat → Nat} {d : W8} {wr : World} (h : BRel3 w g v s d f wr) (q : Nat) : BRel3 w g v s d f (wr.drewN q) := ⟨h.o.drewN q,h.gv,h.v.drewN q⟩
theorem BRel3.next {w : World} {g v : Nat} {s f : Nat → Nat} {d : W8} {wr : World} (h : BRel3 w g v s d f wr) (d' : W8) : BRel3 w g v s d' f (wr.setRow v (row .u64 8 d'.get)) := by
 have h1 := h.gv
 have h2 := h.o.gt
 exact ⟨⟨below_setRow h.o.b (by omega) _,h.o.gt,h.o.s.setRow_ne _ (by omega),h.o.z.setRow_ne _ (by omega),h.o.k.setRow_ne _ (by omega),h.o.r.setRow_ne _ (by omega)⟩,h.gv,h.v.setRow _⟩
theorem BRel3.sum {w : World} {g v : Nat} {s f : Nat → Nat} {d : W8} {wr : World} (h : BRel3 w g v s d f wr) (k x : Nat) : BRel3 w g v (upd s k x) d f (wr.setCell ⟨w.heap.size,k,none⟩ (.int .u64 (x : Int))) := by
 have h1 := h.gv
 have h2 := h.o.gt
 exact ⟨⟨h.o.b.setCell (by simp) _,h.o.gt,h.o.s.set _ _,h.o.z.other _ _ (by simp),h.o.k.other _ _ (by simp; omega),h.o.r.other _ _ (by simp; omega)⟩,h.gv,h.v.other _ _ (by simp; omega)⟩
theorem brel3_start {w wr : World} {g : Nat} {f : Nat → Nat} {s : W8} (h : BRel w g s.get f wr) :
  BRel3 w g wr.heap.size s.get s f ((wr.alloc (.cells #[.int .u64 0,.int .u64 0,.int .u64 0,.int .u64 0,.int .u64 0,.int .u64 0,.int .u64 0,.int .u64 0] 162)).setRow wr.heap.size (row .u64 8 s.get)) := by
 have h1 := h.r.lt
 have h2 := h.gt
 have h3 := h.b.size
 exact ⟨⟨below_setRow (h.b.alloc h3 _) h3 _,h.gt,(h.s.al _).setRow_ne _ (by omega),(h.z.al _).setRow_ne _ (by omega),(h.k.al _).setRow_ne _ (by omega),(h.r.al _).setRow_ne _ (by omega)⟩,h1,(rzero8 _).setRow _⟩
set_option maxRecDepth 100000 in
set_option maxHeartbeats 1000000 in
theorem rblock_any (s : W8) (q : Option Addr) (r : List UInt8) (c : Nat) (w : World) (hs : s.Ok) (hb : Bs w q r) (hr : r.length = 64) :
  Calls Tryz.prog 156 #[.agg (row .u64 8 s.get),.slice q 64 c] w fun e w' => e = .returned (.agg (row .u64 8 (blk s r).get)) ∧ Below w.heap.size w w' := by
 obtain ⟨hz,hn⟩ := zero_of_info info_r64
 have HN := Lib.hid hn
 clear hn
 have H8 := Lib.hid (zero_of_info info_r8).2
 have hbn := build_none
 obtain ⟨b,off,rfl,hbl,-⟩ := hb (by omega)
 have HR := Lib.hid hr
 clear hr
 go_enter Tryz.func156,Tryz.ntmps156
 go_wp2_with fail
 refine (table_any _).mono ?_
 rintro e w1 ⟨rfl,hb1⟩
 have hS1 : Arr w1 w.heap.size .u64 8 162 s.get := (Arr.new.al _).keep hb1 (by simp; omega)
 have hZ1 : Arr w1 (w.heap.size + 1) .u64 8 162 (fun _ => 0) := (rzero8_1 _ _).keep hb1 (by simp)
 have hB1 : Below w.heap.size w w1 := (below2 _ _ _).trans (hb1.mono (by simp; omega))
 have hgt : w.heap.size + 1 < w1.heap.size := by have := hb1.size; simp at this; omega
 clear hb1
 go_wp2_with (first | (with_reducible refine wpList_store_arr rfl 175 (.tmp 5) (.tmp 20) rfl w1.heap.size .u64 64 kAt rfl rfl 175 _ Arr.new HN ?_) | (with_reducible refine wpList_store_arr rfl 175 (.tmp 6) (.tmp 21) rfl (w1.heap.size + 1) .u64 64 (fun _ => 0) rfl rfl 175 (fun _ => 0) ?hA HN ?_))
 case hA => exact new_after _ _ _
 have hRel := brel_start hB1 hgt hS1 hZ1
 clear hS1 hZ1 hB1
 have HGT := Lib.hid hgt
 clear hgt
 generalize World.setRow _ _ _ = wx at hRel ⊢
 go_loopw [7] (fun i wr => ∃ k : Nat,k ≤ 16 ∧ i = .int .i64 k ∧ ∃ f,BRel w w1.heap.size s.get f wr ∧ UpTo r f k) (fun i _ => 16 - (intOf i).toNat)
 case atStart => exact ⟨0,by decide,rfl,_,hRel,fun j hj => by omega⟩
 case round =>
  obtain ⟨k,hk,rfl,f,hR,hU⟩ := hrel
  by_cases hlt : k < 16
  · have hBs := hb.keep hR.b
    have c0 := bs_cell hBs (4 * k) (by rw [HR.out]; omega)
    have c1 := bs_cell hBs (4 * k + 1) (by rw [HR.out]; omega)
    have c2 := bs_cell hBs (4 * k + 2) (by rw [HR.out]; omega)
    have c3 := bs_cell hBs (4 * k + 3) (by rw [HR.out]; omega)
    have b0 := byte_lt r (4 * k)
    have b1 := byte_lt r (4 * k + 1)
    have b2 := byte_lt r (4 * k + 2)
    have b3 := byte_lt r (4 * k + 3)
    clear hBs
    go_wp2_with fail
    refine wp_region_quiet_tail_lit 35 (by kernel_rfl) (by kernel_rfl) ?_
    simp only [List.take_succ_cons,List.take_zero,List.drop_succ_cons,List.drop_zero]
    repeat (go_big_quiet_step (fail))
    refine wpQuiet_nil ?_
    rintro _ ⟨nq,rfl⟩
    have hRd := hR.drewN nq
    clear c0 c1 c2 c3 hR
    generalize wr.drewN nq = w2 at hRd ⊢
    have c1 := hRd.r.at_ k (by omega)
    have z1 := hRd.r.frz k
    have HV := Lib.hid (four_sum r k hlt)
    go_wp2_with fail
    go_roundw
    case rel => exact ⟨k + 1,by omega,by go_num,_,by rw [HV.out]; exact hRd.put k _,hU.next⟩
    case measure => simp [intOf]; omega
  · obtain rfl : k = 16 := by omega
    rw [show ((16 : Nat) : Int) = 16 from rfl]
    go_wp2_with fail
    go_loopw [8] (fun i wr => ∃ k : Nat,16 ≤ k ∧ k ≤ 64 ∧ i = .int .i64 k ∧ ∃ f,BRel w w1.heap.size s.get f wr ∧ UpTo r f k) (fun i _ => 64 - (intOf i).toNat)
    case atStart => exact ⟨16,by decide,by decide,rfl,f,hR,hU⟩
    case round =>
     obtain ⟨k,hk0,hk,rfl,f,hR,hU⟩ := hrel
     by_cases hlt : k < 64
     · have c15 := hR.r.at_ (k - 15) (by omega)
       have c2 := hR.r.at_ (k - 2) (by omega)
       have c7 := hR.r.at_ (k - 7) (by omega)
       have c16 := hR.r.at_ (k - 16) (by omega)
       rw [hU (k - 15) (by omega)] at c15
       rw [hU (k - 2) (by omega)] at c2
       rw [hU (k - 7) (by omega)] at c7
       rw [hU (k - 16) (by omega)] at c16
       have hnext := next_of r k hk0 hlt
       have l15 := wAt_lt r (k - 15) (by omega)
       have l2 := wAt_lt r (k - 2) (by omega)
       have l7 := wAt_lt r (k - 7) (by omega)
       have l16 := wAt_lt r (k - 16) (by omega)
       generalize wAt r (k - 15) = x1 at c15 l15 hnext
       generalize wAt r (k - 2) = x3 at c2 l2 hnext
       generalize wAt r (k - 7) = x2 at c7 l7 hnext
       generalize wAt r (k - 16) = x4 at c16 l16 hnext
       have HLX := Lib.hid (smallX_lt x1 l15)
       have HLY := Lib.hid (smallY_lt x3 l2)
       have HNX : Hid (((smallX x1 : Int) + (x2 : Int) + (smallY x3 : Int) + (x4 : Int)) % 4294967296 = (wAt r k : Int)) := Lib.hid (by
        rw [← hnext]
        generalize smallX x1 = y1
        generalize smallY x3 = y3
        omega)
       clear hnext
       go_wp2_with fail
       have lx := HLX.out
       have ly := HLY.out
       refine wp_region_quiet_tail_lit 28 (by kernel_rfl) (by kernel_rfl) ?_
       simp only [List.take_succ_cons,List.take_zero,List.drop_succ_cons,List.drop_zero]
       repeat (go_big_quiet_step (first | (go_at_call 174; with_reducible exact Calls.quiet_of (rturn_7 _ _ l15)) | (go_at_call 174; with_reducible exact Calls.quiet_of (rturn_18 _ _ l15)) | (go_at_call 174; with_reducible exact Calls.quiet_of (rturn_17 _ _ l2)) | (go_at_call 174; with_reducible exact Calls.quiet_of (rturn_19 _ _ l2)) | (go_at_call 173; with_reducible exact Calls.quiet_of_same (odd_x _ _ l15)) | (go_at_call 173; with_reducible exact Calls.quiet_of_same (odd_y _ _ l2)) | (go_at_call 172; with_reducible exact Calls.quiet_of_same (whole_to _ _ HNX.out (by omega) (by omega) _))))
       refine wpQuiet_nil ?_
       rintro _ ⟨nq,rfl⟩
       have hRd := hR.drewN nq
       clear c15 c2 c7 c16 hR lx ly l15 l2 l7 l16 HLX HLY HNX
       generalize wr.drewN nq = w2 at hRd ⊢
       have c1 := hRd.r.at_ k hlt
       have z1 := hRd.r.frz k
       go_wp2_with fail
       go_roundw
       case rel => exact ⟨k + 1,by omega,by omega,by go_num,_,hRd.put k _,hU.next⟩
       case measure => simp [intOf]; omega
     · obtain rfl : k = 64 := by omega
       have hRw : BRel w w1.heap.size s.get (wAt r) wr := ⟨hR.b,hR.gt,hR.s,hR.z,hR.k,hR.r.congr fun j hj => hU j hj⟩
       clear hR hU
       rw [show ((64 : Nat) : Int) = 64 from rfl]
       go_wp2_with (first | (with_reducible refine wpList_load_arr rfl 162 (.tmp 2) rfl w.heap.size rfl .u64 8 162 s.get hRw.s _ Tryz.underlying162 rfl H8 ?_) | (with_reducible refine wpList_store_arr rfl 162 (.tmp 11) (.tmp 101) rfl wr.heap.size .u64 8 s.get rfl rfl 162 _ (rzero8 _) H8 ?_))
       have hV := brel3_start hRw
       have hgr : w1.heap.size + 1 < wr.heap.size := hRw.r.lt
       clear hRw
       generalize World.setRow _ _ _ = w2 at hV ⊢
       generalize wr.heap.size = gv at hV hgr ⊢
       go_loopw [12] (fun i wz => ∃ k : Nat,k ≤ 64 ∧ i = .int .i64 k ∧ BRel3 w w1.heap.size gv s.get (rounds s r k) (wAt r) wz) (fun i _ => 64 - (intOf i).toNat)
       case atStart => exact ⟨0,by decide,rfl,hV⟩
       case round =>
        obtain ⟨k,hk,rfl,hR⟩ := hrel
        by_cases hlt : k < 64
        · have HO := rounds_ok hs r k
          have HS := Lib.hid (ShaMath.rounds_succ s r k)
          have ck := hR.o.k.at_ k hlt
          have cw := hR.o.r.at_ k hlt
          have lk := kAt_lt k
          have lw := wAt_lt r k hlt
          have HKW := Lib.hid (kw_eq r k)
          generalize rounds s r k = dd at hR HO HS
          generalize kAt k = x5 at ck lk HKW
          generalize wAt r k = x6 at cw lw HKW
          generalize kw r k = kk at HS HKW
          obtain ⟨a,b2,c2,d2,e2,f2,g2,h2⟩ := dd
          obtain ⟨la,lb,lc,ld,le,lf,lg,lh⟩ := HO
          simp only at la lb lc ld le lf lg lh
          have v0 : wr.cell? ⟨_,0,none⟩ = some (.int .u64 (a : Int)) := hR.v.at_ 0 (by decide)
          have v1 : wr.cell? ⟨_,1,none⟩ = some (.int .u64 (b2 : Int)) := hR.v.at_ 1 (by decide)
          have v2 : wr.cell? ⟨_,2,none⟩ = some (.int .u64 (c2 : Int)) := hR.v.at_ 2 (by decide)
          have v4 : wr.cell? ⟨_,4,none⟩ = some (.int .u64 (e2 : Int)) := hR.v.at_ 4 (by decide)
          have v5 : wr.cell? ⟨_,5,none⟩ = some (.int .u64 (f2 : Int)) := hR.v.at_ 5 (by decide)
          have v6 : wr.cell? ⟨_,6,none⟩ = some (.int .u64 (g2 : Int)) := hR.v.at_ 6 (by decide)
          have v7 : wr.cell? ⟨_,7,none⟩ = some (.int .u64 (h2 : Int)) := hR.v.at_ 7 (by decide)
          obtain ⟨p1,p2,pp,mm,t1,u1,z1,z2,hp1,hp2,hp3,hp4,hp5,lp,hm,lm,HT,HU,lt1,lu1,HZ1,HZ2,HN2⟩ := rnd_form a b2 c2 d2 e2 f2 g2 h2 x5 x6 kk HKW.out la lb lc le lf lg
          have lE := bigE_lt e2 le
          have lA := bigA_lt a la
          go_wp2_with fail
          clear hp1 hp2 hp3 hp4 hp5 hm
          go_quiet (first | (go_at_call 174; with_reducible exact Calls.quiet_of (rturn_6 _ _ le)) | (go_at_call 174; with_reducible exact Calls.quiet_of (rturn_11 _ _ le)) | (go_at_call 174; with_reducible exact Calls.quiet_of (rturn_25 _ _ le)) | (go_at_call 173; with_reducible exact Calls.quiet_of_same (odd_e _ _ le)) | (go_at_call 172; with_reducible exact Calls.quiet_of_same (whole_to _ _ HT.out (by omega) (by omega) _)))
          have hR1 := hR.drewN nq
          clear hR v0 v1 v2 v4 v5 v6 v7 ck cw HT lE
          generalize wr.drewN nq = w3 at hR1 ⊢
          go_wp2_with fail
          refine (rturn_2 a _ la).mono ?_
          rintro e w' ⟨rfl,q1,rfl⟩
          have hR := hR1.drewN q1
          clear hR1
          generalize w3.drewN q1 = w4 at hR ⊢
          go_wp2_with fail
          refine (rturn_13 a _ la).mono ?_
          rintro e w' ⟨rfl,q1,rfl⟩
          have hR1 := hR.drewN q1
          clear hR
          generalize w4.drewN q1 = w5 at hR1 ⊢
          go_wp2_with fail
          refine (rturn_22 a _ la).mono ?_
          rintro e w' ⟨rfl,q1,rfl⟩
          have hR := hR1.drewN q1
          clear hR1
          generalize w5.drewN q1 = w6 at hR ⊢
          go_wp2_with fail
          refine (odd_a a _ la).mono ?_
          rintro e w' ⟨rfl,rfl⟩
          go_wp2_with fail
          refine (whole_to _ _ HU.out (by omega) (by omega) _).mono ?_
          rintro e w' ⟨rfl,rfl⟩
          clear HU lA
          have v1 : w'.cell? ⟨_,1,none⟩ = some (.int .u64 (b2 : Int)) := hR.v.at_ 1 (by decide)
          have v2 : w'.cell? ⟨_,2,none⟩ = some (.int .u64 (c2 : Int)) := hR.v.at_ 2 (by decide)
          have v3 : w'.cell? ⟨_,3,none⟩ = some (.int .u64 (d2 : Int)) := hR.v.at_ 3 (by decide)
          have v5 : w'.cell? ⟨_,5,none⟩ = some (.int .u64 (f2 : Int)) := hR.v.at_ 5 (by decide)
          have v6 : w'.cell? ⟨_,6,none⟩ = some (.int .u64 (g2 : Int)) := hR.v.at_ 6 (by decide)
          go_wp2_with fail
          refine wp_region_quiet_tail_lit 20 (by kernel_rfl) (by kernel_rfl) ?_
          simp only [List.take_succ_cons,List.take_zero,List.drop_succ_cons,List.drop_zero]
          repeat (go_big_quiet_step (first | (go_at_call 172; with_reducible exact Calls.quiet_of_same (whole_to _ _ HZ1.out (by omega) (by omega) _)) | (go_at_call 172; with_reducible exact Calls.quiet_of_same (whole_to _ _ HZ2.out (by omega) (by omega) _))))
          refine wpQuiet_nil ?_
          rintro _ ⟨nq,rfl⟩
          have hR2 := hR.drewN nq
          clear hR v1 v2 v3 v5 v6 HZ1 HZ2
          generalize w'.drewN nq = w7 at hR2 ⊢
          go_wp2_with (refine wpList_store_arr rfl 162 (.tmp 11) (.tmp 185) rfl _ .u64 8 (W8.get ⟨z1,a,b2,c2,z2,e2,f2,g2⟩) rfl rfl 162 _ hR2.v H8 ?_)
          go_roundw
          case rel => exact ⟨k + 1,by omega,by go_num,by rw [HS.out,HN2.out]; exact hR2.next _⟩
          case measure => simp [intOf]; omega
        · obtain rfl : k = 64 := by omega
          have HRO := Lib.hid (rounds_ok hs r 64)
          obtain ⟨rr,hrr⟩ : ∃ rr,rr = rounds s r 64 := ⟨_,rfl⟩
          rw [← hrr] at hR HRO
          have HRR := Lib.hid hrr
          clear hrr
          have HSO := Lib.hid hs
          rw [show ((64 : Nat) : Int) = 64 from rfl]
          go_wp2_with fail
          go_loopw [19] (fun i wy => ∃ k : Nat,k ≤ 8 ∧ i = .int .i64 k ∧ ∃ f,BRel3 w w1.heap.size gv f rr (wAt r) wy ∧ (∀ j,k ≤ j → f j = s.get j) ∧ (∀ j,j < k → f j = (blk s r).get j)) (fun i _ => 8 - (intOf i).toNat)
          case atStart => exact ⟨0,by decide,rfl,s.get,hR,fun j _ => rfl,fun j hj => by omega⟩
          case round =>
           obtain ⟨k,hk,rfl,f,hF,hf1,hf2⟩ := hrel
           have HF1 := Lib.hid hf1
           have HF2 := Lib.hid hf2
           by_cases hlt : k < 8
           · have c1 := hF.o.s.at_ k hlt
             have c2 := hF.v.at_ k hlt
             have HV := Lib.hid (blk_mod HRR.out hf1)
             have lf : f k < 4294967296 := by rw [hf1 k (Nat.le_refl _)]; exact HSO.out.get k
             have lr : rr.get k < 4294967296 := HRO.out.get k
             clear hf1 hf2
             generalize hfk : f k = fk at c1 HV lf
             generalize rr.get k = rk at c2 HV lr
             clear hfk
             go_wp2_with fail
             refine wp_region_quiet_tail_lit 10 (by kernel_rfl) (by kernel_rfl) ?_
             simp only [List.take_succ_cons,List.take_zero,List.drop_succ_cons,List.drop_zero]
             repeat (go_big_quiet_step ((go_at_call 172; with_reducible exact Calls.quiet_of_same (whole_to _ _ HV.out (by omega) (by omega) _))))
             refine wpQuiet_nil ?_
             rintro _ ⟨nq,rfl⟩
             have hRd := hF.drewN nq
             clear c1 c2 hF HV
             generalize World.drewN _ nq = w8 at hRd ⊢
             have c1 := hRd.o.s.at_ k hlt
             have z1 := hRd.o.s.frz k
             go_wp2_with fail
             go_roundw
             case rel => exact ⟨k + 1,by omega,by go_num,_,hRd.sum k _,fun j hj => by rw [upd_other _ _ _ _ (by omega)]; exact HF1.out j (by omega),fun j hj => by
              by_cases e : j = k
              · subst e; exact upd_same _ _ _
              · rw [upd_other _ _ _ _ e]; exact HF2.out j (by omega)⟩
             case measure => simp [intOf]; omega
           · have hs2 := hF.o.s.congr fun j hj => hf2 j (by omega)
             have HB := Lib.hid hF.o.b
             have hZ := hF.o.z
             clear hf1 hf2 HF1 HF2 hF
             go_wp2_with (first | (with_reducible refine wpList_load_arr rfl 162 (.tmp 2) rfl w.heap.size rfl .u64 8 162 (blk s r).get hs2 _ Tryz.underlying162 rfl H8 ?_) | (with_reducible refine wpList_store_arr rfl 162 (.tmp 4) (.tmp 200) rfl (w.heap.size + 1) .u64 8 (blk s r).get rfl rfl 162 _ hZ H8 ?_))
             exact bodyPost_ret (results_arr rfl _ _ (w.heap.size + 1) 162 .u64 8 (blk s r).get _ rfl (hZ.setRow _) Tryz.underlying162 rfl H8) rfl ⟨rfl,below_setRow HB.out (by omega) _⟩
end Go.Proofs.YtpoinibckmbfcaaGreatDoor.RefT
namespace Go.Proofs.YtpoinibckmbfcaaGreatDoor.RefT
open Go.RowKit Kit ShaMath ShaT HexW
set_option linter.unusedVariables false
set_option maxRecDepth 100000
theorem own_form {w : World} {base size n : Nat} {e : TypeId} {v : Value} {xs : List Value} (h : w.ownsRow base e size v n xs) (hn : 0 < n) : ∃ g c,v = .slice (some ⟨g,0,none⟩) n c := by
 rcases h.2 with ⟨_,h0⟩ | ⟨g,cap,_,hv,_⟩
 · omega
 · exact ⟨g,cap,hv⟩
theorem bs_news {w w' : World} {b off : Nat} {l : List UInt8} (h : Bs w (some ⟨b,off,none⟩) l) (hb : Below w.heap.size w w') : ∀ j u,(bv l)[j]? = some u → w'.cell? ((⟨b,off,none⟩ : Addr).add j) = some u := by
 intro j u hu
 have hj : j < l.length := by
  rcases Nat.lt_or_ge j l.length with h' | h'
  · exact h'
  · rw [List.getElem?_eq_none (by rw [bv_length]; exact h')] at hu; cases hu
 rw [bv_at l j hj] at hu
 injection hu with hu
 subst hu
 obtain ⟨b',off',e,-,hc⟩ := (h.keep hb) (by omega)
 injection e with e
 injection e with e1 e2
 subst e1 e2
 rw [Addr.add_lit]
 exact hc j hj
theorem own_lit0 (w : World) : (w.alloc (.cells #[] 5)).ownsRow w.heap.size 5 1 (.slice (some ⟨w.heap.size,0,none⟩) 0 0) 0 [] :=
 World.ownsRow_lit w #[] 0 (Nat.le_refl _) (by simp [maxLen]) rfl
def body (l : List UInt8) (n : Nat) : List UInt8 := l ++ [128] ++ List.replicate (n - (l.length + 1)) 0
theorem body_start (l : List UInt8) : body l (l.length + 1) = l ++ [128] := by simp [body]
theorem body_next (l : List UInt8) (n : Nat) (h : l.length + 1 ≤ n) : body l (n + 1) = body l n ++ [0] := by
 unfold body
 rw [show n + 1 - (l.length + 1) = (n - (l.length + 1)) + 1 by omega,List.replicate_succ',← List.append_assoc]
theorem gap_le (n : Nat) : gap n ≤ 63 := by unfold gap; omega
theorem gap_mod (n : Nat) : (n + 1 + gap n) % 64 = 56 := by unfold gap; omega
theorem gap_not (n m : Nat) (h1 : n + 1 ≤ m) (h2 : m < n + 1 + gap n) : ¬ m % 64 = 56 := by unfold gap at h2; omega
theorem two_box (w : World) : ∀ j u,[Value.int .u8 128][j]? = some u → ((w.alloc (.cells #[] 5)).alloc (.cells #[.int .u8 128] 5)).cell? ((⟨w.heap.size + 1,0,none⟩ : Addr).add j) = some u := by
 have h := one_news (w.alloc (.cells #[] 5)) (.int .u8 128) 5
 rwa [show (w.alloc (.cells #[] 5)).heap.size = w.heap.size + 1 by simp] at h
theorem len_byte (l : List UInt8) (k : Nat) (hk : k < 8) : ∃ y : Nat,((l.length : Int) * 8 / 2 ^ (8 * (7 - k))).tmod 256 = (y : Int) ∧ y < 256 ∧ (be8 (8 * l.length)).take (k + 1) = (be8 (8 * l.length)).take k ++ [UInt8.ofNat y] := by
 refine ⟨8 * l.length / 2 ^ (8 * (7 - k)) % 256,?_,Nat.mod_lt _ (by decide),?_⟩
 · rw [show (l.length : Int) * 8 = ((8 * l.length : Nat) : Int) by omega,show (((8 * l.length : Nat) : Int) / 2 ^ (8 * (7 - k))) = ((8 * l.length / 2 ^ (8 * (7 - k)) : Nat) : Int) by simp]
   generalize 8 * l.length / 2 ^ (8 * (7 - k)) = z
   rw [Int.tmod_eq_emod_of_nonneg (by omega)]
   omega
 · rw [List.take_succ_eq_append_getElem (by rw [be8_length]; exact hk)]
   congr 2
   unfold be8
   simp
set_option maxHeartbeats 2000000 in
theorem rpadded_any (p : Option Addr) (l : List UInt8) (cap : Nat) (w : World) (hb : Bs w p l) (hl : l.length ≤ 70368744176640) (hnil : p = none → cap = 0) :
  Calls Tryz.prog 154 #[.slice p l.length cap] w fun e w' => ∃ v,e = .returned v ∧ w'.ownsRow w.heap.size 5 1 v (padded l).length (bv (padded l)) ∧ Below w.heap.size w w' := by
 obtain ⟨i0,hi0,hz0,hz1,hzb⟩ := info_parts u8_info
 have start : ∀ K : Prop,(∀ ad,p = some ad → (∀ w',Below w.heap.size w w' → ∀ j u,(bv l)[j]? = some u → w'.cell? (ad.add j) = some u) → K) → (p = none → l = [] → cap = 0 → K) → K := by
  intro K h1 h2
  cases hp : p with
  | none =>
    refine h2 hp ?_ (hnil hp)
    rcases Nat.eq_zero_or_pos l.length with h | h
    · exact List.eq_nil_of_length_eq_zero h
    · obtain ⟨b,off,e,-⟩ := hb h
      rw [hp] at e; cases e
  | some ad =>
    refine h1 ad hp (fun w' hw j u hu => ?_)
    have hj : 0 < l.length := by
     rcases Nat.eq_zero_or_pos l.length with h | h
     · rw [List.eq_nil_of_length_eq_zero h] at hu; simp [bv] at hu
     · exact h
    obtain ⟨b,off,e,-,-⟩ := hb hj
    have ead : ad = ⟨b,off,none⟩ := Option.some.inj (hp.symm.trans e)
    subst ead
    rw [hp] at hb
    exact bs_news hb hw j u hu
 have HG := gap_le l.length
 refine start _ (fun ad hp hcells => ?_) (fun hp hl0 hc0 => ?_)
 · subst hp
   have HC := Lib.hid hcells
   clear hcells start
   go_enter Tryz.func154,Tryz.ntmps154
   go_wp2_with (first | (at_builtin; (refine wpList_append_own _ rfl (.tmp 6) (.tmp 7) 30 rfl w.heap.size 5 i0 (.int .u8 0) 1 1 Tryz.underlying30 hi0 hz0 hz1 hzb rfl (by decide) _ 0 [] rfl (own_lit0 w) ad l.length cap (bv l) rfl (by rw [bv_length,Nat.mul_one]) (HC.out _ (below1 _ _)) (bv_one l) (by unfold maxLen; omega) (by omega) (by simp) ?_; intro v1 w1 hown1 hgrow1 _; have hb1 := Lib.hid ((below1 w _).grown hgrow1 (by simp) (own_base (own_lit0 w))); clear hgrow1)) | (at_builtin; refine wpList_append_own _ rfl (.tmp 8) (.tmp 9) 30 rfl w.heap.size 5 i0 (.int .u8 0) 1 1 Tryz.underlying30 hi0 hz0 hz1 hzb rfl (by decide) v1 (0 + l.length) _ rfl (hown1.alloc _) ⟨w1.heap.size,0,none⟩ 1 1 [.int .u8 128] rfl rfl (one_news _ _ _) (by simp [Value.oneCell']) (by unfold maxLen; omega) (by omega) (by have := hb1.out.size; simp; omega) ?_; intro v2 w2 hown2 hgrow2 _))
   have hA : w2.ownsRow w.heap.size 5 1 v2 (l.length + 1) (bv (body l (l.length + 1))) := by
    rw [body_start,bv_app,show l.length + 1 = 0 + l.length + 1 by omega]
    exact hown2
   have hB : Below w.heap.size w w2 := (hb1.out.alloc hb1.out.size _).grown hgrow2 (by have := hb1.out.size; simp; omega) (own_base hown1)
   clear hown1 hown2 hgrow2 hb1 HC
   obtain ⟨g2,cc2,rfl⟩ := own_form hA (by omega)
   go_loopw [3] (fun v wr => ∃ (n g c : Nat),v = .slice (some ⟨g,0,none⟩) n c ∧ l.length + 1 ≤ n ∧ n ≤ l.length + 1 + gap l.length ∧ Below w.heap.size w wr ∧ wr.ownsRow w.heap.size 5 1 v n (bv (body l n))) (fun v _ => match v with | .slice _ n _ => l.length + 1 + gap l.length - n | _ => 0)
   case atStart => exact ⟨l.length + 1,g2,cc2,rfl,Nat.le_refl _,by omega,hB,hA⟩
   case round =>
    obtain ⟨n,g,c,rfl,h1,h2,hbel,hown⟩ := hrel
    have hbs := hbel.size
    by_cases hn : n = l.length + 1 + gap l.length
    · have hd : (((n : Int) % 64) != 56) = false := by
       have := gap_mod l.length
       rw [hn]
       simp
       omega
      have HN := Lib.hid hn
      clear hn
      go_wp2_with fail
      go_loopw [3,5] (fun v i wr => ∃ k : Nat,k ≤ 8 ∧ i = .int .i64 (7 - (k : Int)) ∧ Below w.heap.size w wr ∧ wr.ownsRow w.heap.size 5 1 v (n + k) (bv (body l n ++ (be8 (8 * l.length)).take k))) (fun _ i _ => (intOf i + 1).toNat)
      case atStart => exact ⟨0,by decide,rfl,hbel,by simpa using hown⟩
      case round =>
       obtain ⟨k,hk,rfl,hbel,hown⟩ := hrel
       have hbs := hbel.size
       by_cases hlt : k < 8
       · have hd2 : decide (0 ≤ 7 - (k : Int)) = true := decide_eq_true (by omega)
         obtain ⟨y,hy1,hy2,hy3⟩ := len_byte l k hlt
         have HY3 := Lib.hid hy3
         clear hy3
         go_wp2_with (at_builtin; refine wpList_append_own _ rfl (.tmp 26) (.tmp 33) 30 rfl w.heap.size 5 i0 (.int .u8 0) 1 1 Tryz.underlying30 hi0 hz0 hz1 hzb rfl (by decide) u3 (n + k) _ rfl (hown.alloc _) ⟨wr.heap.size,0,none⟩ 1 1 [.int .u8 (y : Int)] rfl rfl (one_news _ _ _) (by simp [Value.oneCell']) (by unfold maxLen; omega) (by omega) (by simp; omega) ?_; intro v3 w3 hown3 hgrow3 _; have hb3 := Lib.hid ((hbel.alloc hbs _).grown hgrow3 (by simp; omega) (own_base hown)); have HO3 := Lib.hid hown3; clear hgrow3 hown3 hy1)
         go_roundw
         case rel => exact ⟨k + 1,by omega,by congr 1; omega,hb3.out,by
          have h := HO3.out
          rw [HY3.out,bv_app,bv_app,show n + (k + 1) = n + k + 1 by omega]
          rw [bv_app,List.append_assoc] at h
          rw [show bv [UInt8.ofNat y] = [.int .u8 (y : Int)] by unfold bv; simp only [List.map_cons,List.map_nil]; rw [show (UInt8.ofNat y).toNat = y % 256 from UInt8.toNat_ofNat',Nat.mod_eq_of_lt hy2]]
          exact h⟩
         case measure => simp [intOf]; omega
       · obtain rfl : k = 8 := by omega
         have hd2 : decide (0 ≤ 7 - ((8 : Nat) : Int)) = false := by decide
         have HP := Lib.hid (show body l n ++ (be8 (8 * l.length)).take 8 = padded l by rw [HN.out,List.take_of_length_le (by rw [be8_length]; exact Nat.le_refl _)]; unfold body padded; rw [show l.length + 1 + gap l.length - (l.length + 1) = gap l.length by omega])
         have HPL := Lib.hid (show (padded l).length = n + 8 by rw [padded_length,HN.out]; omega)
         have HO := Lib.hid hown
         clear hown
         rw [show (7 - ((8 : Nat) : Int)) = -1 from rfl]
         go_wp2_with fail
         go_ret
         exact ⟨_,rfl,by rw [HPL.out,← HP.out]; exact HO.out,hbel⟩
    · have hd : (((n : Int) % 64) != 56) = true := by
       have := gap_not l.length n h1 (by omega)
       simp
       omega
      have HBN := Lib.hid (body_next l n h1)
      go_wp2_with (at_builtin; refine wpList_append_own _ rfl (.tmp 15) (.tmp 16) 30 rfl w.heap.size 5 i0 (.int .u8 0) 1 1 Tryz.underlying30 hi0 hz0 hz1 hzb rfl (by decide) (.slice (some ⟨g,0,none⟩) n c) n _ rfl (hown.alloc _) ⟨wr.heap.size,0,none⟩ 1 1 [.int .u8 0] rfl rfl (one_news _ _ _) (by simp [Value.oneCell']) (by unfold maxLen; omega) (by omega) (by simp; omega) ?_; intro v3 w3 hown3 hgrow3 _; obtain ⟨g3,c3,rfl⟩ := own_form hown3 (by omega); have hb3 := Lib.hid ((hbel.alloc hbs _).grown hgrow3 (by simp; omega) (own_base hown)); have HO3 := Lib.hid hown3; clear hgrow3 hown3)
      go_roundw
      case rel => exact ⟨n + 1,g3,c3,rfl,by omega,by omega,hb3.out,by rw [HBN.out,bv_app]; exact HO3.out⟩
      case measure => show l.length + 1 + gap l.length - (n + 1) < l.length + 1 + gap l.length - n; omega
 · subst hp hc0
   have HL0 := Lib.hid (show l.length = 0 by rw [hl0]; rfl)
   clear start hb hnil
   rw [HL0.out]
   go_enter Tryz.func154,Tryz.ntmps154
   go_wp2_with (at_builtin; (refine wpList_append_own _ rfl (.tmp 8) (.tmp 9) 30 rfl w.heap.size 5 i0 (.int .u8 0) 1 1 Tryz.underlying30 hi0 hz0 hz1 hzb rfl (by decide) (.slice (some ⟨w.heap.size,0,none⟩) 0 0) 0 [] rfl ((own_lit0 w).alloc _) ⟨w.heap.size + 1,0,none⟩ 1 1 [.int .u8 128] rfl rfl (two_box w) (by simp [Value.oneCell']) (by unfold maxLen; omega) (by omega) (by simp; omega) ?_; intro v2 w2 hown2 hgrow2 _))
   have hA : w2.ownsRow w.heap.size 5 1 v2 (l.length + 1) (bv (body l (l.length + 1))) := by
    rw [body_start,HL0.out,hl0]
    exact hown2
   have hB : Below w.heap.size w w2 := (below2 w _ _).grown hgrow2 (by simp; omega) (own_base (own_lit0 w))
   clear hown2 hgrow2 hl0
   obtain ⟨g2,cc2,rfl⟩ := own_form hA (by omega)
   go_loopw [3] (fun v wr => ∃ (n g c : Nat),v = .slice (some ⟨g,0,none⟩) n c ∧ l.length + 1 ≤ n ∧ n ≤ l.length + 1 + gap l.length ∧ Below w.heap.size w wr ∧ wr.ownsRow w.heap.size 5 1 v n (bv (body l n))) (fun v _ => match v with | .slice _ n _ => l.length + 1 + gap l.length - n | _ => 0)
   case atStart => exact ⟨l.length + 1,g2,cc2,rfl,Nat.le_refl _,by omega,hB,hA⟩
   case round =>
    obtain ⟨n,g,c,rfl,h1,h2,hbel,hown⟩ := hrel
    have hbs := hbel.size
    by_cases hn : n = l.length + 1 + gap l.length
    · have hd : (((n : Int) % 64) != 56) = false := by
       have := gap_mod l.length
       rw [hn]
       simp
       omega
      have HN := Lib.hid hn
      clear hn
      go_wp2_with fail
      go_loopw [3,5] (fun v i wr => ∃ k : Nat,k ≤ 8 ∧ i = .int .i64 (7 - (k : Int)) ∧ Below w.heap.size w wr ∧ wr.ownsRow w.heap.size 5 1 v (n + k) (bv (body l n ++ (be8 (8 * l.length)).take k))) (fun _ i _ => (intOf i + 1).toNat)
      case atStart => exact ⟨0,by decide,rfl,hbel,by simpa using hown⟩
      case round =>
       obtain ⟨k,hk,rfl,hbel,hown⟩ := hrel
       have hbs := hbel.size
       by_cases hlt : k < 8
       · have hd2 : decide (0 ≤ 7 - (k : Int)) = true := decide_eq_true (by omega)
         obtain ⟨y,hy1,hy2,hy3⟩ := len_byte l k hlt
         have hy0 : y = 0 := by rw [HL0.out] at hy1; simp at hy1; omega
         subst hy0
         have HY3 := Lib.hid hy3
         clear hy3
         go_wp2_with (at_builtin; refine wpList_append_own _ rfl (.tmp 26) (.tmp 33) 30 rfl w.heap.size 5 i0 (.int .u8 0) 1 1 Tryz.underlying30 hi0 hz0 hz1 hzb rfl (by decide) u3 (n + k) _ rfl (hown.alloc _) ⟨wr.heap.size,0,none⟩ 1 1 [.int .u8 0] rfl rfl (one_news _ _ _) (by simp [Value.oneCell']) (by unfold maxLen; omega) (by omega) (by simp; omega) ?_; intro v3 w3 hown3 hgrow3 _; have hb3 := Lib.hid ((hbel.alloc hbs _).grown hgrow3 (by simp; omega) (own_base hown)); have HO3 := Lib.hid hown3; clear hgrow3 hown3 hy1)
         go_roundw
         case rel => exact ⟨k + 1,by omega,by congr 1; omega,hb3.out,by
          have h := HO3.out
          rw [HY3.out,bv_app,bv_app,show n + (k + 1) = n + k + 1 by omega]
          rw [bv_app,List.append_assoc] at h
          rw [show bv [UInt8.ofNat 0] = [.int .u8 0] from rfl]
          exact h⟩
         case measure => simp [intOf]; omega
       · obtain rfl : k = 8 := by omega
         have hd2 : decide (0 ≤ 7 - ((8 : Nat) : Int)) = false := by decide
         have HP := Lib.hid (show body l n ++ (be8 (8 * l.length)).take 8 = padded l by rw [HN.out,List.take_of_length_le (by rw [be8_length]; exact Nat.le_refl _)]; unfold body padded; rw [show l.length + 1 + gap l.length - (l.length + 1) = gap l.length by omega])
         have HPL := Lib.hid (show (padded l).length = n + 8 by rw [padded_length,HN.out]; omega)
         have HO := Lib.hid hown
         clear hown
         rw [show (7 - ((8 : Nat) : Int)) = -1 from rfl]
         go_wp2_with fail
         go_ret
         exact ⟨_,rfl,by rw [HPL.out,← HP.out]; exact HO.out,hbel⟩
    · have hd : (((n : Int) % 64) != 56) = true := by
       have := gap_not l.length n h1 (by omega)
       simp
       omega
      have HBN := Lib.hid (body_next l n h1)
      go_wp2_with (at_builtin; refine wpList_append_own _ rfl (.tmp 15) (.tmp 16) 30 rfl w.heap.size 5 i0 (.int .u8 0) 1 1 Tryz.underlying30 hi0 hz0 hz1 hzb rfl (by decide) (.slice (some ⟨g,0,none⟩) n c) n _ rfl (hown.alloc _) ⟨wr.heap.size,0,none⟩ 1 1 [.int .u8 0] rfl rfl (one_news _ _ _) (by simp [Value.oneCell']) (by unfold maxLen; omega) (by omega) (by simp; omega) ?_; intro v3 w3 hown3 hgrow3 _; obtain ⟨g3,c3,rfl⟩ := own_form hown3 (by omega); have hb3 := Lib.hid ((hbel.alloc hbs _).grown hgrow3 (by simp; omega) (own_base hown)); have HO3 := Lib.hid hown3; clear hgrow3 hown3)
      go_roundw
      case rel => exact ⟨n + 1,g3,c3,rfl,by omega,by omega,hb3.out,by rw [HBN.out,bv_app]; exact HO3.out⟩
      case measure => show l.length + 1 + gap l.length - (n + 1) < l.length + 1 + gap l.length - n; omega
end Go.Proofs.YtpoinibckmbfcaaGreatDoor.RefT
namespace Go.Proofs.YtpoinibckmbfcaaGreatDoor.RefT
open Go.RowKit Kit ShaMath ShaT HexW
set_option linter.unusedVariables false
set_option maxRecDepth 100000
theorem quiet_load_arr {P : Program} {o : Oper} {a : Act} {w : World} {K : Act → Prop} (ty : TypeId) (x : Operand) (ho : o.op = .load ty x)
    (g : Nat) (hx : a.eval x = .pointer (some ⟨g,0,none⟩)) (k : IntKind) (n : Nat) (t : TypeId) (f : Nat → Nat) (hA : Arr w g k n t f) (d : TypeDesc)
    (hu : P.underlying ty = some d) (hd : (match d with | .struct _ | .array _ _ => true | _ => false) = true) (hi : Hid ((P.info? ty).map (·.size) = some n))
    (h : K (a.put o.dst (.agg (row k n f)))) : o.quiet P a (fun w' => ∃ q,w' = w.drewN q) K := by
  refine ⟨_,?_,h⟩
  rintro _ ⟨q,rfl⟩
  unfold Oper.quietAt execOp
  simp only [ho,hx,Instr.loadAt,Instr.sureAddr,Sem.run_bind,Sem.run_pure,Result.andThen_ok,run_loadVar_row (w.drewN q) g t ty _ (0,0) d (hA.drewN q) hu hd (by rw [hi.out,row_size])]
  exact ⟨rfl,rfl⟩
theorem own_cap {w : World} {base n g c : Nat} {xs : List Value} (h : w.ownsRow base 5 1 (.slice (some ⟨g,0,none⟩) n c) n xs) : n ≤ c ∧ c ≤ 9223372036854775807 := by
 rcases h.2 with ⟨e,_⟩ | ⟨g',cap,cur,e,_,_,h1,h2,_⟩
 · injection e with e1
   cases e1
 · injection e with _ _ e3
   subst e3
   exact ⟨h1,by unfold maxLen at h2; omega⟩
theorem bs_setRow {w : World} {b off c : Nat} {cs : Array Value} {l : List UInt8} (h : Bs w (some ⟨b,off,none⟩) l) (hne : b ≠ c) : Bs (w.setRow c cs) (some ⟨b,off,none⟩) l := by
 intro h0
 obtain ⟨b',off',e,hl,hc⟩ := h h0
 injection e with e
 injection e with e1 e2
 subst e1 e2
 refine ⟨b,off,rfl,by rw [setRow_size]; exact hl,fun j hj => ?_⟩
 rw [cell_setRow_other w c cs ⟨b,off + j,none⟩ hne]
 exact hc j hj
theorem bs_lt {w : World} {b off : Nat} {l : List UInt8} (h : Bs w (some ⟨b,off,none⟩) l) (h0 : 0 < l.length) : b < w.heap.size := by
 obtain ⟨b',off',e,hl,_⟩ := h h0
 injection e with e
 injection e with e1 e2
 subst e1
 exact hl
theorem own_bs' {w : World} {base n g c : Nat} {l : List UInt8} (h : w.ownsRow base 5 1 (.slice (some ⟨g,0,none⟩) n c) n (bv l)) : Bs w (some ⟨g,0,none⟩) l := by
 obtain ⟨p,c',e,hb⟩ := own_bs h
 injection e with e1 _ _
 rw [e1]
 exact hb
theorem cut_run (g n c m : Nat) (hm : m + 64 ≤ c) (W : World) : (Instr.slice 30 (.slice (some ⟨g,0,none⟩) n c) (some (.int .i64 (m : Int))) (some (.int .i64 ((m : Int) + 64))) none).run Tryz.prog W = .ok (.slice (some ⟨g,m,none⟩) 64 (c - m)) W := by
 have h := Lib.run_slice_window (P := Tryz.prog) W 30 5 Tryz.underlying30 size_u8 g 0 n c m (m + 64) (by omega) hm
 rw [show ((m + 64 : Nat) : Int) = (m : Int) + 64 by omega,show m + 64 - m = 64 by omega,Nat.zero_add] at h
 exact h
theorem build_32 (w : World) : (Instr.build 89 #[]).run Tryz.prog w = .ok (.agg (row .u8 32 fun _ => 0)) w := run_build w 89 _ _ (by kernel_rfl)
structure SRel (w : World) (g : Nat) (s : W8) (wr : World) : Prop where
 b : Below w.heap.size w wr
 gt : w.heap.size < g
 z : Arr wr w.heap.size .u8 32 89 (fun _ => 0)
 s : Arr wr g .u64 8 162 s.get
theorem SRel.drewN {w : World} {g : Nat} {s : W8} {wr : World} (h : SRel w g s wr) (q : Nat) : SRel w g s (wr.drewN q) := ⟨h.b.trans ⟨rfl,rfl,rfl,Nat.le_refl _,fun _ _ => rfl⟩,h.gt,h.z.drewN q,h.s.drewN q⟩
theorem SRel.keep {w : World} {g : Nat} {s : W8} {wr w' : World} (h : SRel w g s wr) (hb : Below wr.heap.size wr w') : SRel w g s w' := ⟨h.b.trans (hb.mono h.b.size),h.gt,h.z.keep hb h.z.lt,h.s.keep hb h.s.lt⟩
theorem SRel.words {w : World} {g : Nat} {s : W8} {wr : World} (h : SRel w g s wr) (s' : W8) : SRel w g s' (wr.setRow g (row .u64 8 s'.get)) := by
 have := h.gt
 exact ⟨below_setRow h.b (by omega) _,h.gt,h.z.setRow_ne _ (by omega),h.s.setRow _⟩
structure SRel2 (w : World) (g gt : Nat) (s : W8) (f : Nat → Nat) (wr : World) : Prop where
 b : Below w.heap.size w wr
 gs : w.heap.size < g
 lt : g < gt
 z : Arr wr w.heap.size .u8 32 89 (fun _ => 0)
 s : Arr wr g .u64 8 162 s.get
 t : Arr wr gt .u8 32 89 f
theorem tb_int (s : W8) (k : Nat) : ((s.get (k / 4) : Int) / 2 ^ (24 - 8 * (k % 4))).tmod 256 % 256 = ((tb s k : Nat) : Int) := by
 unfold tb
 rw [Int.tmod_eq_emod_of_nonneg (Int.ediv_nonneg (by omega) (Int.pow_nonneg (by decide))),Int.emod_emod]
 simp
theorem SRel2.told {w : World} {g gt : Nat} {s : W8} {f : Nat → Nat} {wr : World} (h : SRel2 w g gt s f wr) (k : Nat) (hv : 0 = 0) : SRel2 w g gt s (upd f k (tb s k)) (wr.setCell ⟨gt,k,none⟩ (.int .u8 ((tb s k : Nat) : Int))) := by
 have h1 := h.gs
 have h2 := h.lt
 exact ⟨h.b.setCell (by simp; omega) _,h1,h2,h.z.other _ _ (by simp; omega),h.s.other _ _ (by simp; omega),h.t.set _ _⟩
theorem Bs.cut {w : World} {b off m : Nat} {P : List UInt8} (h : Bs w (some ⟨b,off,none⟩) P) (hm : m + 64 ≤ P.length) : Bs w (some ⟨b,off + m,none⟩) ((P.drop m).take 64) := by
 intro h0
 obtain ⟨b',off',e,hl,hc⟩ := h (by omega)
 injection e with e
 injection e with e1 e2
 subst e1 e2
 refine ⟨b,off + m,rfl,hl,fun j hj => ?_⟩
 rw [List.length_take,List.length_drop] at hj
 rw [Nat.add_assoc,hc (m + j) (by omega)]
 simp
theorem cut_same (P : List UInt8) (m : Nat) (s : W8) : blk s ((P.drop m).take 64) = blk s (P.drop m) := by
 apply blk_same
 intro j hj
 unfold byte
 rw [List.getD_eq_getElem?_getD,List.getD_eq_getElem?_getD,List.getElem?_take_of_lt hj]
theorem padded_mod (l : List UInt8) : (padded l).length % 64 = 0 := by rw [padded_length]; unfold gap; omega
set_option maxHeartbeats 2000000 in
theorem rsum_any (p : Option Addr) (l : List UInt8) (cap : Nat) (w : World) (hb : Bs w p l) (hl : l.length ≤ 70368744176640) (hnil : p = none → cap = 0) :
  Calls Tryz.prog 135 #[.slice p l.length cap] w fun e w' => e = .returned (.agg (row .u8 32 (sumAt l))) ∧ Below w.heap.size w w' := by
 obtain ⟨hz,hn⟩ := zero_of_info info_32
 have HN := Lib.hid hn
 clear hn
 have H8 := Lib.hid (zero_of_info info_r8).2
 have hb32 := build_32
 unfold sumAt
 obtain ⟨s,hs⟩ : ∃ s,s = sumW l := ⟨_,rfl⟩
 rw [← hs]
 have HS := Lib.hid hs
 clear hs
 go_enter Tryz.func135,Tryz.ntmps135
 go_wp2_with fail
 refine (rpadded_any p l cap _ (hb.keep (below1 _ _)) hl hnil).mono ?_
 rintro e w1 ⟨v,rfl,hown,hb1⟩
 obtain ⟨g0,c,rfl⟩ := own_form hown (by rw [padded_length]; omega)
 have hlc : (padded l).length ≤ c ∧ c ≤ 9223372036854775807 := own_cap hown
 have hB := Lib.hid (own_bs' hown)
 have hZ1 : Arr w1 w.heap.size .u8 32 89 (fun _ => 0) := Arr.new.keep hb1 (by simp)
 have hB1 : Below w.heap.size w w1 := (below1 _ _).trans (hb1.mono (by simp))
 have hPm := padded_mod l
 obtain ⟨P,hP⟩ : ∃ P,P = padded l := ⟨_,rfl⟩
 have hPl : P.length ≤ 70368744200000 := by rw [hP,padded_length]; have := gap_le l.length; omega
 rw [← hP] at hB hlc hPm ⊢
 have hg0 : g0 < w1.heap.size := bs_lt hB.out (by rw [hP,padded_length]; omega)
 have HP := Lib.hid hP
 have HPM := Lib.hid hPm
 clear hP hown hb1 hPm
 go_wp2_with fail
 refine (first_any _).mono ?_
 rintro e w2 ⟨rfl,hb2⟩
 have hZ2 := hZ1.keep hb2 hZ1.lt
 have hB2 := hB1.trans (hb2.mono hB1.size)
 have HBP := Lib.hid (hB.out.keep hb2)
 have hgt : w.heap.size < w2.heap.size := hZ2.lt
 have hg2 : g0 < w2.heap.size := Nat.lt_of_lt_of_le hg0 hb2.size
 clear hb2 hZ1 hB hB1 hg0
 go_wp2_with (with_reducible refine wpList_store_arr rfl 162 (.tmp 4) (.tmp 10) rfl w2.heap.size .u64 8 H0.get rfl rfl 162 _ (rzero8 _) H8 ?_)
 have hS : SRel w w2.heap.size H0 ((w2.alloc (.cells #[.int .u64 0,.int .u64 0,.int .u64 0,.int .u64 0,.int .u64 0,.int .u64 0,.int .u64 0,.int .u64 0] 162)).setRow w2.heap.size (row .u64 8 H0.get)) :=
  ⟨below_setRow (hB2.alloc hB2.size _) hB2.size _,hgt,(hZ2.al _).setRow_ne _ (by omega),(rzero8 _).setRow _⟩
 have hBP : Hid (Bs ((w2.alloc (.cells #[.int .u64 0,.int .u64 0,.int .u64 0,.int .u64 0,.int .u64 0,.int .u64 0,.int .u64 0,.int .u64 0] 162)).setRow w2.heap.size (row .u64 8 H0.get)) (some ⟨g0,0,none⟩) P) := Lib.hid (HBP.out.keep (below_setRow (below1 _ _) (Nat.le_refl _) _))
 have hsz3 : ((w2.alloc (.cells #[.int .u64 0,.int .u64 0,.int .u64 0,.int .u64 0,.int .u64 0,.int .u64 0,.int .u64 0,.int .u64 0] 162)).setRow w2.heap.size (row .u64 8 H0.get)).heap.size = w2.heap.size + 1 := by simp
 clear hZ2 hB2 HBP
 generalize World.setRow _ _ _ = w3 at hS hBP hsz3 ⊢
 generalize w2.heap.size = gs at hS hgt hsz3 hg2 ⊢
 have HS3 := Lib.hid hsz3
 clear hsz3
 go_loopw [5] (fun i wr => ∃ (k m : Nat),m = 64 * k ∧ m ≤ P.length ∧ i = .int .i64 m ∧ SRel w gs (after P k) wr ∧ Bs wr (some ⟨g0,0,none⟩) P) (fun i _ => P.length - (intOf i).toNat)
 case atStart => exact ⟨0,0,rfl,Nat.zero_le _,rfl,hS,hBP.out⟩
 case round =>
  obtain ⟨k,m,hmk,hm,rfl,hR,hBr⟩ := hrel
  have HMK := Lib.hid hmk
  by_cases hlt : m < P.length
  · have hm64 : m + 64 ≤ P.length := by have := HPM.out; omega
    have hsl := cut_run g0 P.length c m (by omega)
    clear hmk
    go_wp2_with fail
    refine wp_region_quiet_tail_lit 6 (by kernel_rfl) (by kernel_rfl) ?_
    simp only [List.take_succ_cons,List.take_zero,List.drop_succ_cons,List.drop_zero]
    refine wpQuiet_step (fun K hK => ?_)
    rw [if_pos (by rfl)]
    with_reducible refine quiet_load_arr 162 (.tmp 4) rfl gs rfl .u64 8 162 (W8.get (after P k)) hR.s _ Tryz.underlying162 rfl H8 ?_
    go_simp
    refine hK _ ?_
    clear hK K
    repeat (go_big_quiet_step (fail))
    refine wpQuiet_nil ?_
    rintro _ ⟨nq,rfl⟩
    have hRd := hR.drewN nq
    have hBd : Hid (Bs (wr.drewN nq) (some ⟨g0,0,none⟩) P) := Lib.hid (hBr.keep ⟨rfl,rfl,rfl,Nat.le_refl _,fun _ _ => rfl⟩)
    clear hR hBr
    generalize wr.drewN nq = w4 at hRd hBd ⊢
    clear hsl
    go_wp2_with fail
    have hBc := Bs.cut hBd.out hm64
    rw [Nat.zero_add] at hBc
    refine (rblock_any (after P k) _ ((P.drop m).take 64) _ _ (after_ok _ _) hBc (by rw [List.length_take,List.length_drop]; omega)).mono ?_
    rintro e w5 ⟨rfl,hb5⟩
    have HA := Lib.hid (show blk (after P k) ((P.drop m).take 64) = after P (k + 1) by rw [cut_same,after_succ,HMK.out])
    rw [HA.out]
    have hR5 := hRd.keep hb5
    have hB5 := Lib.hid (hBd.out.keep hb5)
    clear hBc hb5 hRd hBd
    go_wp2_with (with_reducible refine wpList_store_arr rfl 162 (.tmp 4) (.tmp 23) rfl gs .u64 8 (W8.get (after P (k + 1))) rfl rfl 162 _ hR5.s H8 ?_)
    go_roundw
    case rel => exact ⟨k + 1,m + 64,by have := HMK.out; omega,by omega,by go_num,hR5.words _,bs_setRow hB5.out (by omega)⟩
    case measure => simp [intOf]; omega
  · obtain rfl : m = P.length := by omega
    have HSW := Lib.hid (show after P k = sumW l by unfold sumW; rw [← HP.out]; congr 1; omega)
    rw [HSW.out] at hR
    clear hBr hmk
    have hso := after_ok (padded l) ((padded l).length / 64)
    rw [← HS.out] at hR
    have hsok : s.Ok := by rw [HS.out]; exact hso
    clear HSW hso hPl hlc
    go_wp2_with (with_reducible refine wpList_store_arr rfl 89 (.tmp 6) (.tmp 24) rfl wr.heap.size .u8 32 (fun _ => 0) rfl rfl 89 _ Arr.new HN ?_)
    have hE : SRel2 w gs wr.heap.size s (fun _ => 0) ((wr.alloc (.cells (row .u8 32 fun _ => 0) 89)).setRow wr.heap.size (row .u8 32 fun _ => 0)) := by
     have h1 := hR.b.size
     have h2 := hR.s.lt
     exact ⟨below_setRow (hR.b.alloc h1 _) h1 _,hR.gt,h2,(hR.z.al _).setRow_ne _ (by have := hR.gt; omega),(hR.s.al _).setRow_ne _ (by omega),Arr.new.setRow _⟩
    clear hR
    generalize World.setRow _ _ _ = wx at hE ⊢
    generalize wr.heap.size = gt at hE ⊢
    go_loopw [7] (fun i wr => ∃ (k : Nat) (f : Nat → Nat),k ≤ 32 ∧ i = .int .i64 k ∧ SRel2 w gs gt s f wr ∧ ∀ j,j < k → f j = tb s j) (fun i _ => 32 - (intOf i).toNat)
    case atStart => exact ⟨0,_,by decide,rfl,hE,fun j hj => by omega⟩
    case round =>
     obtain ⟨k,f,hk,rfl,hR,hf⟩ := hrel
     have HF := Lib.hid hf
     clear hf hE
     by_cases hlt : k < 32
     · have c0 := hR.s.at_ (k / 4) (by omega)
       have c1 := hR.t.at_ k (by omega)
       have z1 := hR.t.frz k
       go_wp2_with fail
       go_roundw
       case rel => exact ⟨k + 1,upd f k (tb s k),by omega,by go_num,by rw [tb_int]; exact hR.told k rfl,fun j hj => by
        by_cases hjk : j = k
        · rw [hjk,upd_same]
        · rw [upd_other _ _ _ _ hjk]; exact HF.out j (by omega)⟩
       case measure => simp [intOf]; omega
     · have hR2 : SRel2 w gs gt s (tb s) wr := ⟨hR.b,hR.gs,hR.lt,hR.z,hR.s,hR.t.congr fun j hj => HF.out j (by omega)⟩
       clear HF hR
       go_wp2_with (first | (with_reducible refine wpList_load_arr rfl 89 (.tmp 6) rfl gt rfl .u8 32 89 (tb s) hR2.t _ Tryz.underlying89 rfl HN ?_) | (with_reducible refine wpList_store_arr rfl 89 (.tmp 2) (.tmp 42) rfl w.heap.size .u8 32 (tb s) rfl rfl 89 _ hR2.z HN ?_))
       exact bodyPost_ret (results_arr rfl _ _ w.heap.size 89 .u8 32 (tb s) _ rfl (hR2.z.setRow _) Tryz.underlying89 rfl HN) rfl ⟨rfl,below_setRow hR2.b (by omega) _⟩
end Go.Proofs.YtpoinibckmbfcaaGreatDoor.RefT
namespace Go.Proofs.YtpoinibckmbfcaaGreatDoor.HexW
open Go.RowKit Kit HexMath ShaT
set_option linter.unusedVariables false
set_option maxRecDepth 100000
set_option maxHeartbeats 1000000 in
theorem rhex_any (p : Option Addr) (l : List UInt8) (cap : Nat) (w : World) (hb : Bs w p l) (hl : l.length ≤ 70368744176640) :
  Calls Tryz.prog 73 #[.slice p l.length cap] w fun e w' => e = .returned (.string ⟨(hexL l).toArray⟩) ∧ Below w.heap.size w w' := by
 obtain ⟨i0,hi0,hz0,hz1,hzb⟩ := info_parts u8_info
 go_enter Tryz.func73,Tryz.ntmps73
 go_wp2_with fail
 go_loopw [4,5] (fun v i wr => ∃ k : Nat,k ≤ l.length ∧ i = .int .i64 k ∧ Below w.heap.size w wr ∧ wr.ownsRow w.heap.size 5 1 v (2 * k) (bv (hexL (l.take k)))) (fun _ i _ => l.length - (intOf i).toNat)
 case atStart => exact ⟨0,Nat.zero_le _,rfl,below1 _ _,World.ownsRow_lit w #[] 0 (Nat.le_refl _) (by simp [maxLen]) rfl⟩
 case round =>
  obtain ⟨k,hk,rfl,hbel,hown⟩ := hrel
  have hbs := hbel.size
  by_cases hlt : k < l.length
  · obtain ⟨b,off,rfl,hbl,hc⟩ := (hb.keep hbel) (by omega)
    have hck := hc k hlt
    have h256 := UInt8.toNat_lt l[k]
    have d1 := dig_at (l[k].toNat / 16) (by omega)
    have d2 := dig_at (l[k].toNat % 16) (by omega)
    rw [show ((l[k].toNat / 16 : Nat) : Int) = (l[k].toNat : Int) / 16 by omega] at d1
    rw [show ((l[k].toNat % 16 : Nat) : Int) = (l[k].toNat : Int) % 16 by omega] at d2
    have q1 : IntKind.u8.wrap ((l[k].toNat : Int) / 16) = (l[k].toNat : Int) / 16 := IntWalk.u8_in _ (by omega)
    have q2 : ((l[k].toNat : Int)).tmod 16 = (l[k].toNat : Int) % 16 := Int.tmod_eq_emod_of_nonneg (by omega)
    clear hc
    go_wp2_with fail
    have HSN : Hid (hexL (l.take (k + 1)) = hexL (l.take k) ++ [hexD (l[k].toNat / 16),hexD (l[k].toNat % 16)]) := Lib.hid (by rw [List.take_succ_eq_append_getElem hlt,hexL_snoc])
    go_region_law (refine step_append_own rfl (.tmp 13) (.tmp 28) 30 rfl w.heap.size 5 i0 (.int .u8 0) 1 1 Tryz.underlying30 hi0 hz0 hz1 hzb rfl (by decide) u4 (2 * k) _ rfl (by first | exact own_drew (hown.alloc _) | exact (own_drew hown).alloc _) ⟨wr.heap.size,0,none⟩ 2 2 [.int .u8 ((hexD (l[k].toNat / 16)).toNat : Int),.int .u8 ((hexD (l[k].toNat % 16)).toNat : Int)] rfl rfl (by first | exact two_news_drew _ _ _ _ | exact two_news _ _ _ _) (by simp [Value.oneCell']) (by unfold maxLen; omega) (by omega) (by simp; omega) ?_; intro v' w1 hown1 hgrow _)
    all_goals
     have hnb := Lib.hid (show Below w.heap.size w w1 from first_below hbel hbs hgrow (own_base hown))
     clear hgrow d1 d2 hck q1 q2
     go_wp2_with fail
     go_roundw
     case rel => exact ⟨k + 1,by omega,by go_num,hnb.out,by rw [HSN.out,bv_app,show 2 * (k + 1) = 2 * k + 2 by omega]; exact hown1⟩
     case measure => simp [intOf]; omega
  · have e : hexL (l.take k) = hexL l := by rw [List.take_of_length_le (by omega)]
    rw [e] at hown
    have hback := run_own_string Tryz.underlying30 Tryz.underlying5 Tryz.underlying9 hown
    clear hown e
    go_wp2_with fail
    go_ret
    exact ⟨rfl,hbel⟩
def rdigI (c : UInt8) : Int := match digV c with | some x => (x : Int) | none => -1
set_option maxHeartbeats 400000 in
theorem rdigit_all (c : UInt8) (w : World) :
  Calls Tryz.prog 143 #[.int .u8 (c.toNat : Int)] w fun e w' => e = .returned (.int .i64 (rdigI c)) ∧ w = w' := by
 have h256 := UInt8.toNat_lt c
 by_cases h1 : 48 ≤ c.toNat
 · have d1 : decide (48 ≤ (c.toNat : Int)) = true := decide_eq_true (by omega)
   by_cases h2 : c.toNat ≤ 57
   · have d2 : decide ((c.toNat : Int) ≤ 57) = true := decide_eq_true (by omega)
     have HV := Lib.hid (digV_low h1 h2)
     go_enter Tryz.func143,Tryz.ntmps143
     go_wp2
     go_ret
     exact ⟨ret_int (by unfold rdigI; rw [HV.out]; simp; omega),rfl⟩
   · have d2 : decide ((c.toNat : Int) ≤ 57) = false := decide_eq_false (by omega)
     by_cases h3 : 97 ≤ c.toNat
     · have d3 : decide (97 ≤ (c.toNat : Int)) = true := decide_eq_true (by omega)
       by_cases h4 : c.toNat ≤ 102
       · have d4 : decide ((c.toNat : Int) ≤ 102) = true := decide_eq_true (by omega)
         have HV := Lib.hid (digV_high h3 h4)
         go_enter Tryz.func143,Tryz.ntmps143
         go_wp2
         go_ret
         exact ⟨ret_int (by unfold rdigI; rw [HV.out]; simp; omega),rfl⟩
       · have d4 : decide ((c.toNat : Int) ≤ 102) = false := decide_eq_false (by omega)
         have HV := Lib.hid (digV_none (c := c) (by omega) (by omega))
         go_enter Tryz.func143,Tryz.ntmps143
         go_wp2
         go_ret
         exact ⟨ret_int (by unfold rdigI; rw [HV.out]),rfl⟩
     · have d3 : decide (97 ≤ (c.toNat : Int)) = false := decide_eq_false (by omega)
       have HV := Lib.hid (digV_none (c := c) (by omega) (by omega))
       go_enter Tryz.func143,Tryz.ntmps143
       go_wp2
       go_ret
       exact ⟨ret_int (by unfold rdigI; rw [HV.out]),rfl⟩
 · have d1 : decide (48 ≤ (c.toNat : Int)) = false := decide_eq_false (by omega)
   have d3 : decide (97 ≤ (c.toNat : Int)) = false := decide_eq_false (by omega)
   have HV := Lib.hid (digV_none (c := c) (by omega) (by omega))
   go_enter Tryz.func143,Tryz.ntmps143
   go_wp2
   go_ret
   exact ⟨ret_int (by unfold rdigI; rw [HV.out]),rfl⟩
theorem rdigit_yes {c : UInt8} {x : Nat} (h : digV c = some x) (w : World) :
  Calls Tryz.prog 143 #[.int .u8 (c.toNat : Int)] w fun e w' => e = .returned (.int .i64 (x : Int)) ∧ w = w' := by
 have := rdigit_all c w
 unfold rdigI at this
 rw [h] at this
 exact this
theorem rdigit_no {c : UInt8} (h : digV c = none) (w : World) :
  Calls Tryz.prog 143 #[.int .u8 (c.toNat : Int)] w fun e w' => e = .returned (.int .i64 (-1)) ∧ w = w' := by
 have := rdigit_all c w
 unfold rdigI at this
 rw [h] at this
 exact this
theorem rjoin_val (x y : Nat) (hx : x < 16) (hy : y < 16) : (16 * (x : Int) + (y : Int)) = ((UInt8.ofNat (16 * x + y)).toNat : Int) := by
 have h : (UInt8.ofNat (16 * x + y)).toNat = (16 * x + y) % 256 := UInt8.toNat_ofNat'
 rw [h]
 omega
set_option maxHeartbeats 2000000 in
theorem runhex_any (s : ByteArray) (w : World) (hz : s.size ≤ 140737488351232) :
  Calls Tryz.prog 122 #[.string s] w (UnhexPost s.data.toList w) := by
 obtain ⟨i0,hi0,hz0,hz1,hzb⟩ := info_parts u8_info
 have HL := Lib.hid (show s.data.toList.length = s.size by simp)
 by_cases hodd : s.size % 2 = 0
 · have d0 : (((s.size : Int) % 2) != 0) = false := by simp; omega
   have HO := Lib.hid hodd
   clear hodd
   go_enter Tryz.func122,Tryz.ntmps122
   go_wp2_with fail
   go_loopw [4,5] (fun v i wr => ∃ (m : Nat) (out : List UInt8),m ≤ s.size ∧ m % 2 = 0 ∧ i = .int .i64 m ∧ Below w.heap.size w wr ∧ wr.ownsRow w.heap.size 5 1 v out.length (bv out) ∧ 2 * out.length = m ∧ unhexL (s.data.toList.take m) = some out) (fun _ i _ => s.size - (intOf i).toNat)
   case atStart => exact ⟨0,[],by omega,rfl,rfl,below1 _ _,World.ownsRow_lit w #[] 0 (Nat.le_refl _) (by simp [maxLen]) rfl,rfl,rfl⟩
   case round =>
    obtain ⟨m,out,hm,hpar,rfl,hbel,hown,hol,hun⟩ := hrel
    have HU := Lib.hid hun
    have HOL := Lib.hid hol
    have HP := Lib.hid hpar
    have hou : out.length ≤ s.size := by omega
    have hbs := hbel.size
    clear hun
    by_cases hlt : m < s.size
    · have hm1 : m + 1 < s.size := by have := HO.out; omega
      have dm : decide ((m : Int) + 1 < (s.size : Int)) = true := decide_eq_true (by omega)
      clear hol hpar
      cases hx : digV s[m] with
      | none =>
        have HN := Lib.hid (step_stop s out m hm1 HU.out (Or.inl hx))
        have HX := Lib.hid hx
        clear hx
        go_wp2_with (go_at_call 143; (first | (with_reducible refine (rdigit_no HX.out _).mono ?_) | (with_reducible refine (rdigit_all s[m + 1] _).mono ?_)); rintro e w' ⟨rfl,rfl⟩)
        go_ret2
        exact Or.inl ⟨HN.out,rfl,hbel⟩
      | some x =>
        have hx16 := digV_lt hx
        have dx : decide ((x : Int) < 0) = false := decide_eq_false (by omega)
        cases hy : digV s[m + 1] with
        | none =>
          have HN := Lib.hid (step_stop s out m hm1 HU.out (Or.inr hy))
          have HX := Lib.hid hx
          have HY := Lib.hid hy
          clear hx hy
          go_wp2_with (go_at_call 143; (first | (with_reducible refine (rdigit_yes HX.out _).mono ?_) | (with_reducible refine (rdigit_no HY.out _).mono ?_)); rintro e w' ⟨rfl,rfl⟩)
          go_ret2
          exact Or.inl ⟨HN.out,rfl,hbel⟩
        | some y =>
          have HN := Lib.hid (step_next s out m x y hm1 HU.out hx hy)
          have hy16 := digV_lt hy
          have dy : decide ((y : Int) < 0) = false := decide_eq_false (by omega)
          have hj := Lib.hid (rjoin_val x y hx16 hy16)
          have HX := Lib.hid hx
          have HY := Lib.hid hy
          clear hx hy
          go_wp2_with (first | (go_at_call 143; (first | (with_reducible refine (rdigit_yes HX.out _).mono ?_) | (with_reducible refine (rdigit_yes HY.out _).mono ?_)); rintro e w' ⟨rfl,rfl⟩) | (at_builtin; refine wpList_append_own _ rfl (.tmp 35) (.tmp 41) 30 rfl w.heap.size 5 i0 (.int .u8 0) 1 1 Tryz.underlying30 hi0 hz0 hz1 hzb rfl (by decide) u4 out.length _ rfl (hown.alloc _) ⟨wr.heap.size,0,none⟩ 1 1 [.int .u8 (16 * (x : Int) + (y : Int))] rfl rfl (one_news _ _ _) (by simp [Value.oneCell']) (by unfold maxLen; omega) (by omega) (by simp; omega) ?_; intro v' w1 hown1 hgrow _))
          go_roundw
          case rel => exact ⟨m + 2,out ++ [UInt8.ofNat (16 * x + y)],by omega,by have := HP.out; omega,by go_num,(hbel.alloc hbs _).grown hgrow (by simp; omega) (own_base hown),by rw [List.length_append,bv_snoc,← hj.out]; exact hown1,by rw [List.length_append]; have := HOL.out; simp; omega,HN.out⟩
          case measure => simp [intOf]; omega
    · have HA : Hid (unhexL s.data.toList = some out) := by
       have h := HU.out
       rw [List.take_of_length_le (by rw [HL.out]; omega)] at h
       exact h
      have dm : decide ((m : Int) + 1 < (s.size : Int)) = false := decide_eq_false (by omega)
      clear hol hpar
      have HW := Lib.hid hown
      clear hown
      go_wp2_with fail
      go_ret2
      exact Or.inr ⟨out,_,HA.out,rfl,HW.out,hbel⟩
 · have d0 : (((s.size : Int) % 2) != 0) = true := by simp; omega
   have HN := Lib.hid (unhex_odd s.data.toList (by rw [HL.out]; omega))
   go_enter Tryz.func122,Tryz.ntmps122
   go_wp2_with fail
   go_ret2
   exact Or.inl ⟨HN.out,rfl,Below.refl _ _⟩
end Go.Proofs.YtpoinibckmbfcaaGreatDoor.HexW
