/-
  What sha.mix comes to: what eight words become by a block.
-/
import Derived.Test.YtjcohlpjlifolaaDoorShaTold
namespace Go.Proofs.YtjcohlpjlifolaaDoor.ShaT
open Go.RowKit Kit ShaMath
set_option linter.unusedVariables false
set_option maxRecDepth 100000

theorem add_cast (x y : Nat) : ((x : Int) + (y : Int)) % 4294967296 = (((x + y) % 4294967296 : Nat) : Int) := by simp
theorem kw_val (l : List UInt8) (i : Nat) : ((kAt i : Int) + (wAt l i : Int)) % 4294967296 = (kw l i : Int) := add_cast (kAt i) (wAt l i)
theorem row_lit (a b c d e f g h : Nat) : row .u32 8 (W8.get ⟨a, b, c, d, e, f, g, h⟩) = #[.int .u32 a, .int .u32 b, .int .u32 c, .int .u32 d, .int .u32 e, .int .u32 f, .int .u32 g, .int .u32 h] := rfl
theorem round_c (s : W8) (x : Nat) (w : World) (hs : s.Ok) :
    Calls Tryd.prog 53 #[.agg (row .u32 8 s.get), .int .u32 x] w fun en w' => en = .returned (.agg (row .u32 8 (rnd s x).get)) ∧ Below w.heap.size w w' := by
  obtain ⟨a, b, c, d, e, f, g, h⟩ := s
  have H := round_any a b c d e f g h x w hs.a hs.b hs.c hs.e hs.f hs.g
  rw [c8_row] at H
  rw [row_lit]
  exact H

/-- The tables stand. -/
structure Tabs (w : World) : Prop where
  h : Tb w 0 .u32 8 H0.get
  k : Tb w 1 .u32 64 kAt
theorem Tabs.keep {w w' : World} (h : Tabs w) (hb : Below w.heap.size w w') : Tabs w' := ⟨h.h.keep hb, h.k.keep hb⟩

theorem info_w64 : (Tryd.prog.info? 61).map (fun i => (i.zero, i.size)) = some (some (.agg (row .u32 64 fun _ => 0)), 64) := by kernel_rfl
theorem zero8 (W : World) (o o' o'' : Obj) : Arr ((((W.alloc o).alloc o').alloc o'').alloc (.cells #[.int .u32 0, .int .u32 0, .int .u32 0, .int .u32 0, .int .u32 0, .int .u32 0, .int .u32 0, .int .u32 0] 59)) (W.heap.size + 1 + 1 + 1) .u32 8 59 (fun _ => 0) := by
  rw [show (#[.int .u32 0, .int .u32 0, .int .u32 0, .int .u32 0, .int .u32 0, .int .u32 0, .int .u32 0, .int .u32 0] : Array Value) = row .u32 8 (fun _ => 0) from rfl]
  exact Arr.new3
theorem zero8' (W : World) (o o' o'' : Obj) : Arr ((((W.alloc o).alloc o').alloc (.cells #[.int .u32 0, .int .u32 0, .int .u32 0, .int .u32 0, .int .u32 0, .int .u32 0, .int .u32 0, .int .u32 0] 59)).alloc o'') (W.heap.size + 1 + 1) .u32 8 59 (fun _ => 0) := by
  rw [show (#[.int .u32 0, .int .u32 0, .int .u32 0, .int .u32 0, .int .u32 0, .int .u32 0, .int .u32 0, .int .u32 0] : Array Value) = row .u32 8 (fun _ => 0) from rfl]
  exact Arr.new2.al _

/-- After so many rounds. -/
structure MixRel (s : W8) (l : List UInt8) (w : World) (r : W8) (f : Nat → Nat) (wr : World) : Prop where
  b : Below w.heap.size w wr
  s : Arr wr w.heap.size .u32 8 59 f
  l : Arr wr (w.heap.size + 1) .u32 64 61 (wAt l)
  z : Arr wr (w.heap.size + 1 + 1) .u32 8 59 (fun _ => 0)
  r : Arr wr (w.heap.size + 1 + 1 + 1) .u32 8 59 r.get
theorem MixRel.next {s : W8} {l : List UInt8} {w : World} {r : W8} {f : Nat → Nat} {wr w' : World} (h : MixRel s l w r f wr) (hb : Below wr.heap.size wr w') (r' : W8) : MixRel s l w r' f (w'.setRow (w.heap.size + 1 + 1 + 1) (row .u32 8 r'.get)) :=
  ⟨below_setRow (h.b.trans (hb.mono h.b.size)) (by omega) _, (h.s.keep hb h.s.lt).setRow_ne _ (by omega), (h.l.keep hb h.l.lt).setRow_ne _ (by omega), (h.z.keep hb h.z.lt).setRow_ne _ (by omega), (h.r.keep hb h.r.lt).setRow _⟩
theorem MixRel.sum {s : W8} {l : List UInt8} {w : World} {r : W8} {f : Nat → Nat} {wr : World} (h : MixRel s l w r f wr) (k v : Nat) : MixRel s l w r (upd f k v) (wr.setCell ⟨w.heap.size, k, none⟩ (.int .u32 (v : Int))) :=
  ⟨h.b.setCell (by simp) _, h.s.set _ _, h.l.other _ _ (by simp), h.z.other _ _ (by simp; omega), h.r.other _ _ (by simp; omega)⟩
theorem MixRel.drew {s : W8} {l : List UInt8} {w : World} {r : W8} {f : Nat → Nat} {wr : World} (h : MixRel s l w r f wr) : MixRel s l w r f wr.drew := ⟨h.b.drew, h.s, h.l, h.z, h.r⟩

theorem blk_get (s : W8) (l : List UInt8) (k : Nat) : (blk s l).get k = (s.get k + (rounds s l 64).get k) % 4294967296 := by
  unfold blk
  exact addW_get _ _ _
theorem blk_val {s r : W8} {l : List UInt8} {f : Nat → Nat} {k : Nat} (hr : r = rounds s l 64) (hf : ∀ j, k ≤ j → f j = s.get j) : IntKind.u32.wrap ((f k : Int) + (r.get k : Int)) = ((blk s l).get k : Int) := by
  rw [IntKind.wrap_u32, blk_get, ← hr, hf k (Nat.le_refl _)]
  exact add_cast _ _

set_option maxHeartbeats 1000000 in
theorem mix_any (s : W8) (l : List UInt8) (w : World) (hs : s.Ok) (hg : Tabs w) :
    Calls Tryd.prog 36 #[.agg (row .u32 8 s.get), .agg (row .u32 64 (wAt l))] w fun e w' => e = .returned (.agg (row .u32 8 (blk s l).get)) ∧ Below w.heap.size w w' := by
  have H8 := Lib.hid (zero_of_info info_8).2
  go_enter Tryd.func36, Tryd.ntmps36
  go_wp2_with (first | (with_reducible refine wpList_load_arr rfl 59 (.tmp 2) rfl w.heap.size rfl .u32 8 59 s.get ((Arr.new.al _).al _) _ Tryd.underlying59 rfl H8 ?_) | (with_reducible refine wpList_store_arr rfl 59 (.tmp 5) (.tmp 8) rfl (w.heap.size + 1 + 1 + 1) .u32 8 s.get rfl rfl 59 _ (zero8 _ _ _ _) H8 ?_))
  go_loopw [9] (fun i wr => ∃ k : Nat, k ≤ 64 ∧ i = .int .i64 k ∧ MixRel s l w (rounds s l k) s.get wr) (fun i _ => 64 - (intOf i).toNat)
  case atStart => exact ⟨0, by decide, rfl, below_setRow (below4 _ _ _ _ _) (by omega) _, (((Arr.new.al _).al _).al _).setRow_ne _ (by omega), ((Arr.new1.al _).al _).setRow_ne _ (by omega), (zero8' _ _ _ _).setRow_ne _ (by omega), (zero8 _ _ _ _).setRow _⟩
  case round =>
    obtain ⟨k, hk, rfl, hR⟩ := hrel
    by_cases hlt : k < 64
    · have c1 := (hg.keep hR.b).k.at_ k hlt
      have c2 := hR.l.at_ k hlt
      have hv : IntKind.u32.wrap ((kAt k : Int) + (wAt l k : Int)) = (kw l k : Int) := by rw [IntKind.wrap_u32]; exact kw_val l k
      have HO := Lib.hid (rounds_ok hs l k)
      have HS := Lib.hid (ShaMath.rounds_succ s l k)
      go_wp2_with fail
      refine wp_region_still_tail 8 (by kernel_rfl) (by kernel_rfl) ?_
      simp only [List.take_succ_cons, List.take_zero, List.drop_succ_cons, List.drop_zero]
      refine wpStill_step (fun K hK => ?_)
      rw [if_pos (by rfl)]
      with_reducible refine still_load_arr 59 (.tmp 5) rfl (w.heap.size + 1 + 1 + 1) rfl .u32 8 59 (rounds s l k).get ?hh _ Tryd.underlying59 rfl H8 (hK _ ?_)
      case hh => exact hR.r
      clear hK K
      repeat still_step
      refine wpStill_nil ?_
      change wpList _ _ _ _ _ wr.drew
      have hRd := hR.drew
      clear c1 c2 hR
      generalize wr.drew = w2 at hRd ⊢
      go_wp2_with (first | (go_at_call 53; (with_reducible refine (round_c (rounds s l k) (kw l k) _ HO.out).mono ?_); rintro e w3 ⟨rfl, hb⟩; have hb3 := Lib.hid hb; clear hb) | (with_reducible refine wpList_store_arr rfl 59 (.tmp 5) (.tmp 20) rfl (w.heap.size + 1 + 1 + 1) .u32 8 (rnd (rounds s l k) (kw l k)).get rfl rfl 59 _ (hRd.r.keep hb3.out hRd.r.lt) H8 ?_))
      go_roundw
      case rel => exact ⟨k + 1, by omega, by go_num, by rw [HS.out]; exact hRd.next hb3.out _⟩
      case measure => simp [intOf]; omega
    · obtain rfl : k = 64 := by omega
      obtain ⟨r, hr⟩ : ∃ r, r = rounds s l 64 := ⟨_, rfl⟩
      rw [← hr] at hR
      have HRr := Lib.hid hr
      clear hr
      rw [show ((64 : Nat) : Int) = 64 from rfl]
      go_wp2_with fail
      go_loopw [22] (fun i wr => ∃ k : Nat, k ≤ 8 ∧ i = .int .i64 k ∧ ∃ f, MixRel s l w r f wr ∧ (∀ j, k ≤ j → f j = s.get j) ∧ (∀ j, j < k → f j = (blk s l).get j)) (fun i _ => 8 - (intOf i).toNat)
      case atStart => exact ⟨0, by decide, rfl, s.get, hR, fun j _ => rfl, fun j hj => by omega⟩
      case round =>
        obtain ⟨k, hk, rfl, f, hF, hf1, hf2⟩ := hrel
        have HF1 := Lib.hid hf1
        have HF2 := Lib.hid hf2
        by_cases hlt : k < 8
        · have c1 := hF.s.at_ k hlt
          have c2 := hF.r.at_ k hlt
          have hv := blk_val HRr.out hf1
          clear hf1 hf2
          go_wp2_with fail
          go_still_tail 8, (by kernel_rfl)
          change wpList _ _ _ _ _ wr.drew
          have hRd := hF.drew
          clear c1 c2 hF
          generalize wr.drew = w2 at hRd ⊢
          have c1 := hRd.s.at_ k hlt
          have z1 := hRd.s.frz k
          go_wp2_with fail
          go_roundw
          case rel => exact ⟨k + 1, by omega, by go_num, _, hRd.sum k _, fun j hj => by rw [upd_other _ _ _ _ (by omega)]; exact HF1.out j (by omega), fun j hj => by
            by_cases e : j = k
            · subst e; exact upd_same _ _ _
            · rw [upd_other _ _ _ _ e]; exact HF2.out j (by omega)⟩
          case measure => simp [intOf]; omega
        · have hs2 : Arr wr w.heap.size .u32 8 59 (blk s l).get := hF.s.congr fun j hj => hf2 j (by omega)
          clear hf1 hf2 HF1 HF2
          go_wp2_with (first | (with_reducible refine wpList_load_arr rfl 59 (.tmp 2) rfl w.heap.size rfl .u32 8 59 (blk s l).get hs2 _ Tryd.underlying59 rfl H8 ?_) | (with_reducible refine wpList_store_arr rfl 59 (.tmp 4) (.tmp 34) rfl (w.heap.size + 1 + 1) .u32 8 (blk s l).get rfl rfl 59 _ hF.z H8 ?_))
          exact bodyPost_ret (results_arr rfl _ _ (w.heap.size + 1 + 1) 59 .u32 8 (blk s l).get _ rfl (hF.z.setRow _) Tryd.underlying59 rfl H8) rfl ⟨rfl, below_setRow hF.b (by omega) _⟩

end Go.Proofs.YtjcohlpjlifolaaDoor.ShaT
