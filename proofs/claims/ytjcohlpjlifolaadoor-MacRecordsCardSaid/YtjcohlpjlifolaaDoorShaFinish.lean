/-
  What sha.finish comes to.
-/
import Derived.Test.YtjcohlpjlifolaaDoorShaSpread
import Derived.Test.YtjcohlpjlifolaaDoorShaBlock
import Derived.Test.YtjcohlpjlifolaaDoorShaPad
import Derived.Deep.RegionWith
namespace Go.Proofs.YtjcohlpjlifolaaDoor.ShaT
open Go.RowKit Kit ShaMath
set_option linter.unusedVariables false
set_option maxRecDepth 100000

theorem block_arr (p : Option Addr) (l : List UInt8) (cap : Nat) (w : World) (hs : Bs w p l) (hl : l.length ≤ maxLen) :
    Calls Tryd.prog 38 #[.slice p l.length cap] w fun e w' => e = .returned (.agg (row .u8 64 (byte l))) ∧ Below w.heap.size w w' := block_any p l cap w hs hl

theorem info_b64' : (Tryd.prog.info? 46).map (fun i => (i.zero, i.size)) = some (some (.agg (row .u8 64 fun _ => 0)), 64) := by kernel_rfl
theorem zero8_1 (W : World) (o : Obj) : Arr ((W.alloc o).alloc (.cells #[.int .u32 0, .int .u32 0, .int .u32 0, .int .u32 0, .int .u32 0, .int .u32 0, .int .u32 0, .int .u32 0] 59)) (W.heap.size + 1) .u32 8 59 (fun _ => 0) := by
  rw [show (#[.int .u32 0, .int .u32 0, .int .u32 0, .int .u32 0, .int .u32 0, .int .u32 0, .int .u32 0, .int .u32 0] : Array Value) = row .u32 8 (fun _ => 0) from rfl]
  exact Arr.new1

/-- What lies in memory. -/
structure FinRel (w : World) (g7 : Nat) (s : W8) (f : Nat → Nat) (wr : World) : Prop where
  b : Below w.heap.size w wr
  g : w.heap.size + 1 < g7
  s : Arr wr w.heap.size .u32 8 59 s.get
  z : Arr wr (w.heap.size + 1) .u32 8 59 (fun _ => 0)
  r : Arr wr g7 .u8 64 46 f
theorem FinRel.drew {w : World} {g7 : Nat} {s : W8} {f : Nat → Nat} {wr : World} (h : FinRel w g7 s f wr) : FinRel w g7 s f wr.drew := ⟨h.b.drew, h.g, h.s, h.z, h.r⟩
theorem FinRel.put {w : World} {g7 : Nat} {s : W8} {f : Nat → Nat} {wr : World} (h : FinRel w g7 s f wr) (k v : Nat) : FinRel w g7 s (upd f k v) (wr.setCell ⟨g7, k, none⟩ (.int .u8 (v : Int))) := by
  have := h.g
  exact ⟨h.b.setCell (by simp; omega) _, h.g, h.s.other _ _ (by simp; omega), h.z.other _ _ (by simp; omega), h.r.set _ _⟩
theorem FinRel.keep {w : World} {g7 : Nat} {s : W8} {f : Nat → Nat} {wr w' : World} (h : FinRel w g7 s f wr) (hb : Below wr.heap.size wr w') : FinRel w g7 s f w' :=
  ⟨h.b.trans (hb.mono h.b.size), h.g, h.s.keep hb h.s.lt, h.z.keep hb h.z.lt, h.r.keep hb h.r.lt⟩
theorem FinRel.words {w : World} {g7 : Nat} {s : W8} {f : Nat → Nat} {wr : World} (h : FinRel w g7 s f wr) (s' : W8) : FinRel w g7 s' f (wr.setRow w.heap.size (row .u32 8 s'.get)) := by
  have := h.g
  exact ⟨below_setRow h.b (Nat.le_refl _) _, h.g, h.s.setRow _, h.z.setRow_ne _ (by omega), h.r.setRow_ne _ (by omega)⟩
theorem FinRel.bytes {w : World} {g7 : Nat} {s : W8} {f : Nat → Nat} {wr : World} (h : FinRel w g7 s f wr) (f' : Nat → Nat) : FinRel w g7 s f' (wr.setRow g7 (row .u8 64 f')) := by
  have := h.g
  exact ⟨below_setRow h.b (by omega) _, h.g, h.s.setRow_ne _ (by omega), h.z.setRow_ne _ (by omega), h.r.setRow _⟩

theorem len_val (all k : Nat) : (all : Int) * 8 / 2 ^ (8 * k) % 256 = ((8 * all / 2 ^ (8 * k) % 256 : Nat) : Int) := by
  rw [Nat.mul_comm 8 all]
  simp
/-- The two last operations' outcome. -/
def Fin2 (w : World) (r : W8) (w' : World) : Prop := Below w.heap.size w w' ∧ Arr w' (w.heap.size + 1) .u32 8 59 r.get
/-- So many bytes of the length are laid. -/
def EndTo (f0 : Nat → Nat) (all : Nat) (f : Nat → Nat) (k : Nat) : Prop := ∀ j, j < 64 → f j = if 64 ≤ j + k then endAt f0 all j else f0 j

theorem EndTo.next {f0 f : Nat → Nat} {all k : Nat} (h : EndTo f0 all f k) (hk : k < 8) : EndTo f0 all (upd f (63 - k) (8 * all / 2 ^ (8 * k) % 256)) (k + 1) := by
  intro j hj
  by_cases e : j = 63 - k
  · subst e
    rw [upd_same, if_pos (by omega)]
    unfold endAt
    rw [if_pos (by omega), show 63 - (63 - k) = k by omega]
  · rw [upd_other _ _ _ _ e, h j hj]
    by_cases h1 : 64 ≤ j + k
    · rw [if_pos h1, if_pos (by omega)]
    · rw [if_neg h1, if_neg (by omega)]
theorem EndTo.last {f0 f : Nat → Nat} {all : Nat} (h : EndTo f0 all f 8) (j : Nat) (hj : j < 64) : f j = endAt f0 all j := by
  rw [h j hj]
  by_cases h1 : 64 ≤ j + 8
  · rw [if_pos h1]
  · rw [if_neg h1]
    unfold endAt
    rw [if_neg (by omega)]

set_option maxHeartbeats 2000000 in
theorem finish_any (s : W8) (p : Option Addr) (l : List UInt8) (cap all : Nat) (w : World) (hs : s.Ok) (hb : Bs w p l) (hl : l.length < 64) (ha : all ≤ 281474976710656) (hg : Tabs w) :
    Calls Tryd.prog 40 #[.agg (row .u32 8 s.get), .slice p l.length cap, .int .i64 all] w fun e w' => e = .returned (.agg (row .u32 8 (fin s l all).get)) ∧ Below w.heap.size w w' := by
  obtain ⟨hz, hn⟩ := zero_of_info info_b64'
  have HN := Lib.hid hn
  clear hn
  have H8 := Lib.hid (zero_of_info info_8).2
  go_enter Tryd.func40, Tryd.ntmps40
  go_wp2_with fail
  refine (block_arr p l cap _ (hb.keep (below2 _ _ _)) (by unfold maxLen; omega)).mono ?_
  rintro e w1 ⟨rfl, hb1⟩
  have hS1 : Arr w1 w.heap.size .u32 8 59 s.get := (Arr.new.al _).keep hb1 (by simp; omega)
  have hZ1 : Arr w1 (w.heap.size + 1) .u32 8 59 (fun _ => 0) := (zero8_1 _ _).keep hb1 (by simp)
  have hB1 : Below w.heap.size w w1 := (below2 _ _ _).trans (hb1.mono (by simp; omega))
  have hgt : w.heap.size + 1 < w1.heap.size := by have := hb1.size; simp at this; omega
  clear hb1
  have hR1 : FinRel w w1.heap.size s (fun _ => 0) (w1.alloc (.cells (row .u8 64 fun _ => 0) 46)) := ⟨hB1.alloc hB1.size _, hgt, hS1.al _, hZ1.al _, Arr.new⟩
  have hv := fun j => snoc_at l j
  by_cases h56 : l.length < 56
  · go_wp2_with ((with_reducible refine wpList_store_arr rfl 46 (.tmp 7) (.tmp 11) rfl w1.heap.size .u8 64 (byte l) rfl rfl 46 _ Arr.new HN ?_); have hR2 := hR1.bytes (byte l); generalize World.setRow _ _ _ = w2 at hR2 ⊢; have c1 := hR2.r.at_ l.length hl; have z1 := hR2.r.frz l.length)
    · have hRx : FinRel w w1.heap.size s (byte (l ++ [128])) (w2.setCell ⟨w1.heap.size, l.length, none⟩ (.int .u8 128)) := by
        have h := hR2.put l.length 128
        rwa [show upd (byte l) l.length 128 = byte (l ++ [128]) from funext (fun j => snoc_at l j)] at h
      clear c1 z1 hR2
      generalize World.setCell _ _ _ = wx at hRx ⊢
      go_loopw [27] (fun i wr => ∃ k : Nat, k ≤ 8 ∧ i = .int .i64 k ∧ ∃ f, FinRel w w1.heap.size (s) f wr ∧ EndTo (byte (l ++ [128])) all f k) (fun i _ => 8 - (intOf i).toNat)
      case atStart => exact ⟨0, by decide, rfl, _, hRx, fun j hj => by rw [if_neg (by omega)]⟩
      case round =>
        obtain ⟨k, hk, rfl, f, hF, hE⟩ := hrel
        by_cases hlt : k < 8
        · have c1 := hF.r.at_ (63 - k) (by omega)
          have z1 := hF.r.frz (63 - k)
          go_wp2_with fail
          go_roundw
          case rel => exact ⟨k + 1, by omega, by go_num, _, by rw [len_val]; exact hF.put (63 - k) _, hE.next hlt⟩
          case measure => simp [intOf]; omega
        · obtain rfl : k = 8 := by omega
          rw [show ((8 : Nat) : Int) = 8 from rfl]
          have hG : FinRel w w1.heap.size (s) (byte (l ++ [128] ++ List.replicate (55 - l.length) 0 ++ be8 (8 * all))) wr := ⟨hF.b, hF.g, hF.s, hF.z, hF.r.congr fun j hj => (hE.last j hj).trans (end_short l all j h56 hj)⟩
          have HFIN := Lib.hid (fin_short (s := s) (all := all) h56)
          obtain ⟨LL, hLL⟩ : ∃ LL, LL = l ++ [128] ++ List.replicate (55 - l.length) 0 ++ be8 (8 * all) := ⟨_, rfl⟩
          rw [← hLL] at hG
          have HLL := Lib.hid hLL
          clear hLL hF hE
          go_wp2_with fail
          refine wp_frame (Fin2 w (blk (s) LL)) ?_
          apply Exists.intro
          apply And.intro
          case left =>
            have hRd := hG.drew
            refine wp_region_any (by kernel_rfl) ?_
            change wpAny _ _ _ _ _ _ _ (World.drew _)
            refine wpAny_ready (rs := [0, 1]) (by kernel_rfl) (by simp) ?_
            refine AllReady.cons rfl (fun K hK => ?_) ?_
            · with_reducible refine step_load_arr rfl 59 (.tmp 3) rfl w.heap.size rfl .u32 8 59 (W8.get (s)) ?hh _ Tryd.underlying59 rfl H8 ?_
              case hh => first | exact hRd.s | exact (hRd.keep hb3.out).s
              refine hK _ _ ?_
              clear hK K
              refine wpAny_ready (rs := [1]) (by kernel_rfl) (by simp) ?_
              refine AllReady.cons rfl (fun K hK => ?_) ?_
              · with_reducible refine step_load_arr rfl 46 (.tmp 7) rfl w1.heap.size rfl .u8 64 46 (byte LL) hRd.r _ Tryd.underlying46 rfl HN ?_
                refine hK _ _ ?_
                clear hK K
                refine wpAny_ready (rs := [2]) (by kernel_rfl) (by simp) ?_
                refine AllReady.cons rfl (fun K hK => ?_) ?_
                · rw [if_pos (by rfl)]
                  go_simp
                  refine (spread_any LL _).mono ?_
                  rintro e w4 ⟨rfl, hb3⟩
                  have hb3 := Lib.hid hb3
                  refine hK _ _ ?_
                  clear hK K
                  refine wpAny_ready (rs := [3]) (by kernel_rfl) (by simp) ?_
                  refine AllReady.cons rfl (fun K hK => ?_) ?_
                  · rw [if_pos (by rfl)]
                    go_simp
                    refine (mix_any (s) LL _ (hs) ?hh).mono ?_
                    case hh => exact hg.keep (hRd.keep hb3.out).b
                    rintro e w5 ⟨rfl, hb4⟩
                    have hb4 := Lib.hid hb4
                    refine hK _ _ ?_
                    clear hK K
                    refine wpAny_ready (rs := [4]) (by kernel_rfl) (by simp) ?_
                    refine AllReady.cons rfl (fun K hK => ?_) ?_
                    · with_reducible refine step_store_arr rfl rfl 59 (.tmp 6) (.tmp 42) rfl (w.heap.size + 1) .u32 8 (blk (s) LL).get rfl rfl 59 _ ((hRd.keep hb3.out).keep hb4.out).z H8 ?_
                      refine hK _ _ ?_
                      clear hK K
                      refine wpAny_done (by kernel_rfl) ?_ _
                      exact ⟨rfl, rfl, below_setRow ((hRd.keep hb3.out).keep hb4.out).b (by omega) _, ((hRd.keep hb3.out).keep hb4.out).z.setRow _⟩
                    exact AllReady.nil
                  exact AllReady.nil
                exact AllReady.nil
              exact AllReady.nil
            refine AllReady.cons rfl (fun K hK => ?_) ?_
            · with_reducible refine step_load_arr rfl 46 (.tmp 7) rfl w1.heap.size rfl .u8 64 46 (byte LL) hRd.r _ Tryd.underlying46 rfl HN ?_
              refine hK _ _ ?_
              clear hK K
              refine wpAny_ready (rs := [0, 2]) (by kernel_rfl) (by simp) ?_
              refine AllReady.cons rfl (fun K hK => ?_) ?_
              · with_reducible refine step_load_arr rfl 59 (.tmp 3) rfl w.heap.size rfl .u32 8 59 (W8.get (s)) ?hh _ Tryd.underlying59 rfl H8 ?_
                case hh => first | exact hRd.s | exact (hRd.keep hb3.out).s
                refine hK _ _ ?_
                clear hK K
                refine wpAny_ready (rs := [2]) (by kernel_rfl) (by simp) ?_
                refine AllReady.cons rfl (fun K hK => ?_) ?_
                · rw [if_pos (by rfl)]
                  go_simp
                  refine (spread_any LL _).mono ?_
                  rintro e w4 ⟨rfl, hb3⟩
                  have hb3 := Lib.hid hb3
                  refine hK _ _ ?_
                  clear hK K
                  refine wpAny_ready (rs := [3]) (by kernel_rfl) (by simp) ?_
                  refine AllReady.cons rfl (fun K hK => ?_) ?_
                  · rw [if_pos (by rfl)]
                    go_simp
                    refine (mix_any (s) LL _ (hs) ?hh).mono ?_
                    case hh => exact hg.keep (hRd.keep hb3.out).b
                    rintro e w5 ⟨rfl, hb4⟩
                    have hb4 := Lib.hid hb4
                    refine hK _ _ ?_
                    clear hK K
                    refine wpAny_ready (rs := [4]) (by kernel_rfl) (by simp) ?_
                    refine AllReady.cons rfl (fun K hK => ?_) ?_
                    · with_reducible refine step_store_arr rfl rfl 59 (.tmp 6) (.tmp 42) rfl (w.heap.size + 1) .u32 8 (blk (s) LL).get rfl rfl 59 _ ((hRd.keep hb3.out).keep hb4.out).z H8 ?_
                      refine hK _ _ ?_
                      clear hK K
                      refine wpAny_done (by kernel_rfl) ?_ _
                      exact ⟨rfl, rfl, below_setRow ((hRd.keep hb3.out).keep hb4.out).b (by omega) _, ((hRd.keep hb3.out).keep hb4.out).z.setRow _⟩
                    exact AllReady.nil
                  exact AllReady.nil
                exact AllReady.nil
              refine AllReady.cons rfl (fun K hK => ?_) ?_
              · rw [if_pos (by rfl)]
                go_simp
                refine (spread_any LL _).mono ?_
                rintro e w4 ⟨rfl, hb3⟩
                have hb3 := Lib.hid hb3
                refine hK _ _ ?_
                clear hK K
                refine wpAny_ready (rs := [0]) (by kernel_rfl) (by simp) ?_
                refine AllReady.cons rfl (fun K hK => ?_) ?_
                · with_reducible refine step_load_arr rfl 59 (.tmp 3) rfl w.heap.size rfl .u32 8 59 (W8.get (s)) ?hh _ Tryd.underlying59 rfl H8 ?_
                  case hh => first | exact hRd.s | exact (hRd.keep hb3.out).s
                  refine hK _ _ ?_
                  clear hK K
                  refine wpAny_ready (rs := [3]) (by kernel_rfl) (by simp) ?_
                  refine AllReady.cons rfl (fun K hK => ?_) ?_
                  · rw [if_pos (by rfl)]
                    go_simp
                    refine (mix_any (s) LL _ (hs) ?hh).mono ?_
                    case hh => exact hg.keep (hRd.keep hb3.out).b
                    rintro e w5 ⟨rfl, hb4⟩
                    have hb4 := Lib.hid hb4
                    refine hK _ _ ?_
                    clear hK K
                    refine wpAny_ready (rs := [4]) (by kernel_rfl) (by simp) ?_
                    refine AllReady.cons rfl (fun K hK => ?_) ?_
                    · with_reducible refine step_store_arr rfl rfl 59 (.tmp 6) (.tmp 42) rfl (w.heap.size + 1) .u32 8 (blk (s) LL).get rfl rfl 59 _ ((hRd.keep hb3.out).keep hb4.out).z H8 ?_
                      refine hK _ _ ?_
                      clear hK K
                      refine wpAny_done (by kernel_rfl) ?_ _
                      exact ⟨rfl, rfl, below_setRow ((hRd.keep hb3.out).keep hb4.out).b (by omega) _, ((hRd.keep hb3.out).keep hb4.out).z.setRow _⟩
                    exact AllReady.nil
                  exact AllReady.nil
                exact AllReady.nil
              exact AllReady.nil
            exact AllReady.nil
          case right =>
            rintro w6 ⟨hb6, hr6⟩
            have hb6 := Lib.hid hb6
            clear hRx hG
            go_wp2_with fail
            exact bodyPost_ret (results_arr rfl _ _ (w.heap.size + 1) 59 .u32 8 (blk (s) LL).get _ rfl hr6 Tryd.underlying59 rfl H8) rfl ⟨by rw [HLL.out, HFIN.out], hb6.out⟩
  · go_wp2_with ((with_reducible refine wpList_store_arr rfl 46 (.tmp 7) (.tmp 11) rfl w1.heap.size .u8 64 (byte l) rfl rfl 46 _ Arr.new HN ?_); have hR2 := hR1.bytes (byte l); generalize World.setRow _ _ _ = w2 at hR2 ⊢; have c1 := hR2.r.at_ l.length hl; have z1 := hR2.r.frz l.length)
    have hR3 : FinRel w w1.heap.size s (byte (l ++ [128])) (w2.setCell ⟨w1.heap.size, l.length, none⟩ (.int .u8 128)) := by
      have h := hR2.put l.length 128
      rwa [show upd (byte l) l.length 128 = byte (l ++ [128]) from funext (fun j => snoc_at l j)] at h
    clear c1 z1 hR2
    generalize w2.setCell _ _ = w3 at hR3 ⊢
    refine wp_frame (FinRel w w1.heap.size (blk s (l ++ [128])) (byte (l ++ [128]))) ?_
    apply Exists.intro
    apply And.intro
    case left =>
      have hRd := hR3.drew
      refine wp_region_any (by kernel_rfl) ?_
      change wpAny _ _ _ _ _ _ _ (World.drew _)
      refine wpAny_ready (rs := [0, 1]) (by kernel_rfl) (by simp) ?_
      refine AllReady.cons rfl (fun K hK => ?_) ?_
      · with_reducible refine step_load_arr rfl 59 (.tmp 3) rfl w.heap.size rfl .u32 8 59 s.get ?hh _ Tryd.underlying59 rfl H8 ?_
        case hh => first | exact hRd.s | exact (hRd.keep hb3.out).s
        refine hK _ _ ?_
        clear hK K
        refine wpAny_ready (rs := [1]) (by kernel_rfl) (by simp) ?_
        refine AllReady.cons rfl (fun K hK => ?_) ?_
        · with_reducible refine step_load_arr rfl 46 (.tmp 7) rfl w1.heap.size rfl .u8 64 46 (byte (l ++ [128])) hRd.r _ Tryd.underlying46 rfl HN ?_
          refine hK _ _ ?_
          clear hK K
          refine wpAny_ready (rs := [2]) (by kernel_rfl) (by simp) ?_
          refine AllReady.cons rfl (fun K hK => ?_) ?_
          · rw [if_pos (by rfl)]
            go_simp
            refine (spread_any (l ++ [128]) _).mono ?_
            rintro e w4 ⟨rfl, hb3⟩
            have hb3 := Lib.hid hb3
            refine hK _ _ ?_
            clear hK K
            refine wpAny_ready (rs := [3]) (by kernel_rfl) (by simp) ?_
            refine AllReady.cons rfl (fun K hK => ?_) ?_
            · rw [if_pos (by rfl)]
              go_simp
              refine (mix_any s (l ++ [128]) _ hs ?hh).mono ?_
              case hh => exact hg.keep (hRd.keep hb3.out).b
              rintro e w5 ⟨rfl, hb4⟩
              have hb4 := Lib.hid hb4
              refine hK _ _ ?_
              clear hK K
              refine wpAny_ready (rs := [4]) (by kernel_rfl) (by simp) ?_
              refine AllReady.cons rfl (fun K hK => ?_) ?_
              · with_reducible refine step_store_arr rfl rfl 59 (.tmp 3) (.tmp 22) rfl w.heap.size .u32 8 (blk s (l ++ [128])).get rfl rfl 59 _ ((hRd.keep hb3.out).keep hb4.out).s H8 ?_
                refine hK _ _ ?_
                clear hK K
                refine wpAny_done (by kernel_rfl) ?_ _
                exact ⟨rfl, rfl, ((hRd.keep hb3.out).keep hb4.out).words _⟩
              exact AllReady.nil
            exact AllReady.nil
          exact AllReady.nil
        exact AllReady.nil
      refine AllReady.cons rfl (fun K hK => ?_) ?_
      · with_reducible refine step_load_arr rfl 46 (.tmp 7) rfl w1.heap.size rfl .u8 64 46 (byte (l ++ [128])) hRd.r _ Tryd.underlying46 rfl HN ?_
        refine hK _ _ ?_
        clear hK K
        refine wpAny_ready (rs := [0, 2]) (by kernel_rfl) (by simp) ?_
        refine AllReady.cons rfl (fun K hK => ?_) ?_
        · with_reducible refine step_load_arr rfl 59 (.tmp 3) rfl w.heap.size rfl .u32 8 59 s.get ?hh _ Tryd.underlying59 rfl H8 ?_
          case hh => first | exact hRd.s | exact (hRd.keep hb3.out).s
          refine hK _ _ ?_
          clear hK K
          refine wpAny_ready (rs := [2]) (by kernel_rfl) (by simp) ?_
          refine AllReady.cons rfl (fun K hK => ?_) ?_
          · rw [if_pos (by rfl)]
            go_simp
            refine (spread_any (l ++ [128]) _).mono ?_
            rintro e w4 ⟨rfl, hb3⟩
            have hb3 := Lib.hid hb3
            refine hK _ _ ?_
            clear hK K
            refine wpAny_ready (rs := [3]) (by kernel_rfl) (by simp) ?_
            refine AllReady.cons rfl (fun K hK => ?_) ?_
            · rw [if_pos (by rfl)]
              go_simp
              refine (mix_any s (l ++ [128]) _ hs ?hh).mono ?_
              case hh => exact hg.keep (hRd.keep hb3.out).b
              rintro e w5 ⟨rfl, hb4⟩
              have hb4 := Lib.hid hb4
              refine hK _ _ ?_
              clear hK K
              refine wpAny_ready (rs := [4]) (by kernel_rfl) (by simp) ?_
              refine AllReady.cons rfl (fun K hK => ?_) ?_
              · with_reducible refine step_store_arr rfl rfl 59 (.tmp 3) (.tmp 22) rfl w.heap.size .u32 8 (blk s (l ++ [128])).get rfl rfl 59 _ ((hRd.keep hb3.out).keep hb4.out).s H8 ?_
                refine hK _ _ ?_
                clear hK K
                refine wpAny_done (by kernel_rfl) ?_ _
                exact ⟨rfl, rfl, ((hRd.keep hb3.out).keep hb4.out).words _⟩
              exact AllReady.nil
            exact AllReady.nil
          exact AllReady.nil
        refine AllReady.cons rfl (fun K hK => ?_) ?_
        · rw [if_pos (by rfl)]
          go_simp
          refine (spread_any (l ++ [128]) _).mono ?_
          rintro e w4 ⟨rfl, hb3⟩
          have hb3 := Lib.hid hb3
          refine hK _ _ ?_
          clear hK K
          refine wpAny_ready (rs := [0]) (by kernel_rfl) (by simp) ?_
          refine AllReady.cons rfl (fun K hK => ?_) ?_
          · with_reducible refine step_load_arr rfl 59 (.tmp 3) rfl w.heap.size rfl .u32 8 59 s.get ?hh _ Tryd.underlying59 rfl H8 ?_
            case hh => first | exact hRd.s | exact (hRd.keep hb3.out).s
            refine hK _ _ ?_
            clear hK K
            refine wpAny_ready (rs := [3]) (by kernel_rfl) (by simp) ?_
            refine AllReady.cons rfl (fun K hK => ?_) ?_
            · rw [if_pos (by rfl)]
              go_simp
              refine (mix_any s (l ++ [128]) _ hs ?hh).mono ?_
              case hh => exact hg.keep (hRd.keep hb3.out).b
              rintro e w5 ⟨rfl, hb4⟩
              have hb4 := Lib.hid hb4
              refine hK _ _ ?_
              clear hK K
              refine wpAny_ready (rs := [4]) (by kernel_rfl) (by simp) ?_
              refine AllReady.cons rfl (fun K hK => ?_) ?_
              · with_reducible refine step_store_arr rfl rfl 59 (.tmp 3) (.tmp 22) rfl w.heap.size .u32 8 (blk s (l ++ [128])).get rfl rfl 59 _ ((hRd.keep hb3.out).keep hb4.out).s H8 ?_
                refine hK _ _ ?_
                clear hK K
                refine wpAny_done (by kernel_rfl) ?_ _
                exact ⟨rfl, rfl, ((hRd.keep hb3.out).keep hb4.out).words _⟩
              exact AllReady.nil
            exact AllReady.nil
          exact AllReady.nil
        exact AllReady.nil
      exact AllReady.nil
    case right =>
      intro w4 hR4
      clear hR3
      go_wp2_with (with_reducible refine wpList_store_arr rfl 46 (.tmp 7) (.tmp 23) rfl w1.heap.size .u8 64 (fun _ => 0) rfl ?hy 46 _ hR4.r HN ?_)
      case hy => rfl
      have hRx := hR4.bytes (fun _ => 0)
      clear hR4
      generalize World.setRow _ _ _ = wx at hRx ⊢
      go_loopw [27] (fun i wr => ∃ k : Nat, k ≤ 8 ∧ i = .int .i64 k ∧ ∃ f, FinRel w w1.heap.size (blk s (l ++ [128])) f wr ∧ EndTo (fun _ => 0) all f k) (fun i _ => 8 - (intOf i).toNat)
      case atStart => exact ⟨0, by decide, rfl, _, hRx, fun j hj => by rw [if_neg (by omega)]⟩
      case round =>
        obtain ⟨k, hk, rfl, f, hF, hE⟩ := hrel
        by_cases hlt : k < 8
        · have c1 := hF.r.at_ (63 - k) (by omega)
          have z1 := hF.r.frz (63 - k)
          go_wp2_with fail
          go_roundw
          case rel => exact ⟨k + 1, by omega, by go_num, _, by rw [len_val]; exact hF.put (63 - k) _, hE.next hlt⟩
          case measure => simp [intOf]; omega
        · obtain rfl : k = 8 := by omega
          rw [show ((8 : Nat) : Int) = 8 from rfl]
          have hG : FinRel w w1.heap.size (blk s (l ++ [128])) (byte (List.replicate 56 0 ++ be8 (8 * all))) wr := ⟨hF.b, hF.g, hF.s, hF.z, hF.r.congr fun j hj => (hE.last j hj).trans (end_long all j hj)⟩
          have HFIN := Lib.hid (fin_long (s := s) (all := all) h56)
          obtain ⟨LL, hLL⟩ : ∃ LL, LL = List.replicate 56 0 ++ be8 (8 * all) := ⟨_, rfl⟩
          rw [← hLL] at hG
          have HLL := Lib.hid hLL
          clear hLL hF hE
          go_wp2_with fail
          refine wp_frame (Fin2 w (blk (blk s (l ++ [128])) LL)) ?_
          apply Exists.intro
          apply And.intro
          case left =>
            have hRd := hG.drew
            refine wp_region_any (by kernel_rfl) ?_
            change wpAny _ _ _ _ _ _ _ (World.drew _)
            refine wpAny_ready (rs := [0, 1]) (by kernel_rfl) (by simp) ?_
            refine AllReady.cons rfl (fun K hK => ?_) ?_
            · with_reducible refine step_load_arr rfl 59 (.tmp 3) rfl w.heap.size rfl .u32 8 59 (W8.get (blk s (l ++ [128]))) ?hh _ Tryd.underlying59 rfl H8 ?_
              case hh => first | exact hRd.s | exact (hRd.keep hb3.out).s
              refine hK _ _ ?_
              clear hK K
              refine wpAny_ready (rs := [1]) (by kernel_rfl) (by simp) ?_
              refine AllReady.cons rfl (fun K hK => ?_) ?_
              · with_reducible refine step_load_arr rfl 46 (.tmp 7) rfl w1.heap.size rfl .u8 64 46 (byte LL) hRd.r _ Tryd.underlying46 rfl HN ?_
                refine hK _ _ ?_
                clear hK K
                refine wpAny_ready (rs := [2]) (by kernel_rfl) (by simp) ?_
                refine AllReady.cons rfl (fun K hK => ?_) ?_
                · rw [if_pos (by rfl)]
                  go_simp
                  refine (spread_any LL _).mono ?_
                  rintro e w4 ⟨rfl, hb3⟩
                  have hb3 := Lib.hid hb3
                  refine hK _ _ ?_
                  clear hK K
                  refine wpAny_ready (rs := [3]) (by kernel_rfl) (by simp) ?_
                  refine AllReady.cons rfl (fun K hK => ?_) ?_
                  · rw [if_pos (by rfl)]
                    go_simp
                    refine (mix_any (blk s (l ++ [128])) LL _ (blk_ok _ _) ?hh).mono ?_
                    case hh => exact hg.keep (hRd.keep hb3.out).b
                    rintro e w5 ⟨rfl, hb4⟩
                    have hb4 := Lib.hid hb4
                    refine hK _ _ ?_
                    clear hK K
                    refine wpAny_ready (rs := [4]) (by kernel_rfl) (by simp) ?_
                    refine AllReady.cons rfl (fun K hK => ?_) ?_
                    · with_reducible refine step_store_arr rfl rfl 59 (.tmp 6) (.tmp 42) rfl (w.heap.size + 1) .u32 8 (blk (blk s (l ++ [128])) LL).get rfl rfl 59 _ ((hRd.keep hb3.out).keep hb4.out).z H8 ?_
                      refine hK _ _ ?_
                      clear hK K
                      refine wpAny_done (by kernel_rfl) ?_ _
                      exact ⟨rfl, rfl, below_setRow ((hRd.keep hb3.out).keep hb4.out).b (by omega) _, ((hRd.keep hb3.out).keep hb4.out).z.setRow _⟩
                    exact AllReady.nil
                  exact AllReady.nil
                exact AllReady.nil
              exact AllReady.nil
            refine AllReady.cons rfl (fun K hK => ?_) ?_
            · with_reducible refine step_load_arr rfl 46 (.tmp 7) rfl w1.heap.size rfl .u8 64 46 (byte LL) hRd.r _ Tryd.underlying46 rfl HN ?_
              refine hK _ _ ?_
              clear hK K
              refine wpAny_ready (rs := [0, 2]) (by kernel_rfl) (by simp) ?_
              refine AllReady.cons rfl (fun K hK => ?_) ?_
              · with_reducible refine step_load_arr rfl 59 (.tmp 3) rfl w.heap.size rfl .u32 8 59 (W8.get (blk s (l ++ [128]))) ?hh _ Tryd.underlying59 rfl H8 ?_
                case hh => first | exact hRd.s | exact (hRd.keep hb3.out).s
                refine hK _ _ ?_
                clear hK K
                refine wpAny_ready (rs := [2]) (by kernel_rfl) (by simp) ?_
                refine AllReady.cons rfl (fun K hK => ?_) ?_
                · rw [if_pos (by rfl)]
                  go_simp
                  refine (spread_any LL _).mono ?_
                  rintro e w4 ⟨rfl, hb3⟩
                  have hb3 := Lib.hid hb3
                  refine hK _ _ ?_
                  clear hK K
                  refine wpAny_ready (rs := [3]) (by kernel_rfl) (by simp) ?_
                  refine AllReady.cons rfl (fun K hK => ?_) ?_
                  · rw [if_pos (by rfl)]
                    go_simp
                    refine (mix_any (blk s (l ++ [128])) LL _ (blk_ok _ _) ?hh).mono ?_
                    case hh => exact hg.keep (hRd.keep hb3.out).b
                    rintro e w5 ⟨rfl, hb4⟩
                    have hb4 := Lib.hid hb4
                    refine hK _ _ ?_
                    clear hK K
                    refine wpAny_ready (rs := [4]) (by kernel_rfl) (by simp) ?_
                    refine AllReady.cons rfl (fun K hK => ?_) ?_
                    · with_reducible refine step_store_arr rfl rfl 59 (.tmp 6) (.tmp 42) rfl (w.heap.size + 1) .u32 8 (blk (blk s (l ++ [128])) LL).get rfl rfl 59 _ ((hRd.keep hb3.out).keep hb4.out).z H8 ?_
                      refine hK _ _ ?_
                      clear hK K
                      refine wpAny_done (by kernel_rfl) ?_ _
                      exact ⟨rfl, rfl, below_setRow ((hRd.keep hb3.out).keep hb4.out).b (by omega) _, ((hRd.keep hb3.out).keep hb4.out).z.setRow _⟩
                    exact AllReady.nil
                  exact AllReady.nil
                exact AllReady.nil
              refine AllReady.cons rfl (fun K hK => ?_) ?_
              · rw [if_pos (by rfl)]
                go_simp
                refine (spread_any LL _).mono ?_
                rintro e w4 ⟨rfl, hb3⟩
                have hb3 := Lib.hid hb3
                refine hK _ _ ?_
                clear hK K
                refine wpAny_ready (rs := [0]) (by kernel_rfl) (by simp) ?_
                refine AllReady.cons rfl (fun K hK => ?_) ?_
                · with_reducible refine step_load_arr rfl 59 (.tmp 3) rfl w.heap.size rfl .u32 8 59 (W8.get (blk s (l ++ [128]))) ?hh _ Tryd.underlying59 rfl H8 ?_
                  case hh => first | exact hRd.s | exact (hRd.keep hb3.out).s
                  refine hK _ _ ?_
                  clear hK K
                  refine wpAny_ready (rs := [3]) (by kernel_rfl) (by simp) ?_
                  refine AllReady.cons rfl (fun K hK => ?_) ?_
                  · rw [if_pos (by rfl)]
                    go_simp
                    refine (mix_any (blk s (l ++ [128])) LL _ (blk_ok _ _) ?hh).mono ?_
                    case hh => exact hg.keep (hRd.keep hb3.out).b
                    rintro e w5 ⟨rfl, hb4⟩
                    have hb4 := Lib.hid hb4
                    refine hK _ _ ?_
                    clear hK K
                    refine wpAny_ready (rs := [4]) (by kernel_rfl) (by simp) ?_
                    refine AllReady.cons rfl (fun K hK => ?_) ?_
                    · with_reducible refine step_store_arr rfl rfl 59 (.tmp 6) (.tmp 42) rfl (w.heap.size + 1) .u32 8 (blk (blk s (l ++ [128])) LL).get rfl rfl 59 _ ((hRd.keep hb3.out).keep hb4.out).z H8 ?_
                      refine hK _ _ ?_
                      clear hK K
                      refine wpAny_done (by kernel_rfl) ?_ _
                      exact ⟨rfl, rfl, below_setRow ((hRd.keep hb3.out).keep hb4.out).b (by omega) _, ((hRd.keep hb3.out).keep hb4.out).z.setRow _⟩
                    exact AllReady.nil
                  exact AllReady.nil
                exact AllReady.nil
              exact AllReady.nil
            exact AllReady.nil
          case right =>
            rintro w6 ⟨hb6, hr6⟩
            have hb6 := Lib.hid hb6
            clear hRx hG
            go_wp2_with fail
            exact bodyPost_ret (results_arr rfl _ _ (w.heap.size + 1) 59 .u32 8 (blk (blk s (l ++ [128])) LL).get _ rfl hr6 Tryd.underlying59 rfl H8) rfl ⟨by rw [HLL.out, HFIN.out], hb6.out⟩

end Go.Proofs.YtjcohlpjlifolaaDoor.ShaT
