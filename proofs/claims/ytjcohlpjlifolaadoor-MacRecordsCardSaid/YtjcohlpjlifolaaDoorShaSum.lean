/-
  What sha.Sum comes to: the sum of any bytes.
-/
import Derived.Test.YtjcohlpjlifolaaDoorShaFinish
namespace Go.Proofs.YtjcohlpjlifolaaDoor.ShaT
open Go.RowKit Kit ShaMath
set_option linter.unusedVariables false
set_option maxRecDepth 100000

/-- What lies in memory. -/
structure SumRel (w : World) (s : W8) (wr : World) : Prop where
  b : Below w.heap.size w wr
  z : Arr wr w.heap.size .u8 32 25 (fun _ => 0)
  s : Arr wr (w.heap.size + 1) .u32 8 59 s.get
theorem SumRel.drew {w : World} {s : W8} {wr : World} (h : SumRel w s wr) : SumRel w s wr.drew := ⟨h.b.drew, h.z, h.s⟩
theorem SumRel.keep {w : World} {s : W8} {wr w' : World} (h : SumRel w s wr) (hb : Below wr.heap.size wr w') : SumRel w s w' :=
  ⟨h.b.trans (hb.mono h.b.size), h.z.keep hb h.z.lt, h.s.keep hb h.s.lt⟩
theorem SumRel.words {w : World} {s : W8} {wr : World} (h : SumRel w s wr) (s' : W8) : SumRel w s' (wr.setRow (w.heap.size + 1) (row .u32 8 s'.get)) :=
  ⟨below_setRow h.b (by omega) _, h.z.setRow_ne _ (by omega), h.s.setRow _⟩

/-- The 32 bytes. -/
def sumAt (l : List UInt8) : Nat → Nat := tb (sumW l)
theorem Bs.drewN {w : World} {p : Option Addr} {l : List UInt8} (h : Bs w p l) : Bs w.drew p l := h

theorem Bs.next {w : World} {b off c : Nat} {r : List UInt8} (hc : r.length ≤ c) (hb : b < w.heap.size) (h : ∀ j (h : j < r.length), w.cell? ⟨b, off + j, none⟩ = some (.int .u8 (r[j].toNat : Int))) :
    Bs w (if c = 64 then some ⟨b, off, none⟩ else some ⟨b, off + 64, none⟩) (r.drop 64) := by
  intro h0
  rw [List.length_drop] at h0
  refine ⟨b, off + 64, by rw [if_neg (by omega)], hb, fun j hj => ?_⟩
  rw [List.length_drop] at hj
  have := h (64 + j) (by omega)
  rw [show off + 64 + j = off + (64 + j) by omega, this]
  simp

set_option maxHeartbeats 2000000 in
theorem sum_any (p : Option Addr) (l : List UInt8) (cap : Nat) (w : World) (hb : Bs w p l) (hl : l.length ≤ 281474976710656) (hlc : l.length ≤ cap) (hc : cap ≤ 9223372036854775807) (hg : Tabs w) :
    Calls Tryd.prog 24 #[.slice p l.length cap] w fun e w' => e = .returned (.agg (row .u8 32 (sumAt l))) ∧ Below w.heap.size w w' := by
  obtain ⟨hz, hn⟩ := zero_of_info info_32
  have HN := Lib.hid hn
  clear hn
  have H8 := Lib.hid (zero_of_info info_8).2
  have HL := Lib.hid hl
  go_enter Tryd.func24, Tryd.ntmps24
  go_wp2_with (first | (with_reducible refine wpList_load_tb rfl 59 (.global 0) rfl 0 rfl .u32 8 H0.get (hg.h.al _) _ Tryd.underlying59 rfl H8 ?_) | (with_reducible refine wpList_store_arr rfl 59 (.tmp 3) (.tmp 5) rfl (w.heap.size + 1) .u32 8 H0.get rfl rfl 59 _ (zero8_1 _ _) H8 ?_))
  have hR : SumRel w H0 (((w.alloc (.cells (row .u8 32 fun _ => 0) 25)).alloc (.cells #[.int .u32 0, .int .u32 0, .int .u32 0, .int .u32 0, .int .u32 0, .int .u32 0, .int .u32 0, .int .u32 0] 59)).setRow (w.heap.size + 1) (row .u32 8 H0.get)) :=
    ⟨below_setRow (below2 _ _ _) (by omega) _, (Arr.new.al _).setRow_ne _ (by omega), (zero8_1 _ _).setRow _⟩
  generalize World.setRow _ _ _ = w1 at hR ⊢
  go_loopw [4] (fun v wr => ∃ (k : Nat) (q : Option Addr) (c : Nat), v = .slice q (l.drop (64 * k)).length c ∧ 64 * k ≤ l.length ∧ (l.drop (64 * k)).length ≤ c ∧ c ≤ 9223372036854775807 ∧ Bs w q (l.drop (64 * k)) ∧ SumRel w (after (padded l) k) wr) (fun v _ => match v with | .slice _ n _ => n | _ => 0)
  case atStart => exact ⟨0, p, cap, rfl, by omega, hlc, hc, hb, hR⟩
  case round =>
    obtain ⟨k, q, c, rfl, hk, hkc, hcm, hB, hS⟩ := hrel
    obtain ⟨r, hr⟩ : ∃ r, r = l.drop (64 * k) := ⟨_, rfl⟩
    rw [← hr] at hkc hB ⊢
    have HR := Lib.hid hr
    clear hr
    by_cases hlt : 64 ≤ r.length
    · have hd : decide (64 ≤ (r.length : Int)) = true := decide_eq_true (by omega)
      go_wp2_with fail
      refine wp_frame (SumRel w (blk (after (padded l) k) r)) ?_
      apply Exists.intro
      apply And.intro
      case left =>
        have hRd := hS.drew
        have hBd := (hB.keep hS.b).drewN
        refine wp_region_any (by kernel_rfl) ?_
        change wpAny _ _ _ _ _ _ _ (World.drew _)
        refine wpAny_ready (rs := [0, 1]) (by kernel_rfl) (by simp) ?_
        refine AllReady.cons rfl (fun K hK => ?_) ?_
        · with_reducible refine step_load_arr rfl 59 (.tmp 3) rfl (w.heap.size + 1) rfl .u32 8 59 (W8.get (after (padded l) k)) ?hh _ Tryd.underlying59 rfl H8 ?_
          case hh => first | exact hRd.s | exact (hRd.keep hb2.out).s | exact ((hRd.keep hb2.out).keep hb3.out).s
          refine hK _ _ ?_
          clear hK K
          refine wpAny_ready (rs := [1]) (by kernel_rfl) (by simp) ?_
          refine AllReady.cons rfl (fun K hK => ?_) ?_
          · go_simp
            refine hK _ _ ?_
            clear hK K
            refine wpAny_ready (rs := [2]) (by kernel_rfl) (by simp) ?_
            refine AllReady.cons rfl (fun K hK => ?_) ?_
            · rw [if_pos (by rfl)]
              go_simp
              refine (block_arr q r c _ hBd (by unfold maxLen; omega)).mono ?_
              rintro e w4 ⟨rfl, hb2⟩
              have hb2 := Lib.hid hb2
              refine hK _ _ ?_
              clear hK K
              refine wpAny_ready (rs := [3]) (by kernel_rfl) (by simp) ?_
              refine AllReady.cons rfl (fun K hK => ?_) ?_
              · rw [if_pos (by rfl)]
                go_simp
                refine (spread_any r _).mono ?_
                rintro e w5 ⟨rfl, hb3⟩
                have hb3 := Lib.hid hb3
                refine hK _ _ ?_
                clear hK K
                refine wpAny_ready (rs := [4]) (by kernel_rfl) (by simp) ?_
                refine AllReady.cons rfl (fun K hK => ?_) ?_
                · rw [if_pos (by rfl)]
                  go_simp
                  refine (mix_any (after (padded l) k) r _ (after_ok _ _) ?hh).mono ?_
                  case hh => exact hg.keep ((hRd.keep hb2.out).keep hb3.out).b
                  rintro e w6 ⟨rfl, hb4⟩
                  have hb4 := Lib.hid hb4
                  refine hK _ _ ?_
                  clear hK K
                  refine wpAny_ready (rs := [5]) (by kernel_rfl) (by simp) ?_
                  refine AllReady.cons rfl (fun K hK => ?_) ?_
                  · with_reducible refine step_store_arr rfl rfl 59 (.tmp 3) (.tmp 14) rfl (w.heap.size + 1) .u32 8 (blk (after (padded l) k) r).get rfl rfl 59 _ (((hRd.keep hb2.out).keep hb3.out).keep hb4.out).s H8 ?_
                    refine hK _ _ ?_
                    clear hK K
                    refine wpAny_done (by kernel_rfl) ?_ _
                    exact ⟨rfl, rfl, (((hRd.keep hb2.out).keep hb3.out).keep hb4.out).words _⟩
                  exact AllReady.nil
                exact AllReady.nil
              exact AllReady.nil
            exact AllReady.nil
          exact AllReady.nil
        refine AllReady.cons rfl (fun K hK => ?_) ?_
        · go_simp
          refine hK _ _ ?_
          clear hK K
          refine wpAny_ready (rs := [0, 2]) (by kernel_rfl) (by simp) ?_
          refine AllReady.cons rfl (fun K hK => ?_) ?_
          · with_reducible refine step_load_arr rfl 59 (.tmp 3) rfl (w.heap.size + 1) rfl .u32 8 59 (W8.get (after (padded l) k)) ?hh _ Tryd.underlying59 rfl H8 ?_
            case hh => first | exact hRd.s | exact (hRd.keep hb2.out).s | exact ((hRd.keep hb2.out).keep hb3.out).s
            refine hK _ _ ?_
            clear hK K
            refine wpAny_ready (rs := [2]) (by kernel_rfl) (by simp) ?_
            refine AllReady.cons rfl (fun K hK => ?_) ?_
            · rw [if_pos (by rfl)]
              go_simp
              refine (block_arr q r c _ hBd (by unfold maxLen; omega)).mono ?_
              rintro e w4 ⟨rfl, hb2⟩
              have hb2 := Lib.hid hb2
              refine hK _ _ ?_
              clear hK K
              refine wpAny_ready (rs := [3]) (by kernel_rfl) (by simp) ?_
              refine AllReady.cons rfl (fun K hK => ?_) ?_
              · rw [if_pos (by rfl)]
                go_simp
                refine (spread_any r _).mono ?_
                rintro e w5 ⟨rfl, hb3⟩
                have hb3 := Lib.hid hb3
                refine hK _ _ ?_
                clear hK K
                refine wpAny_ready (rs := [4]) (by kernel_rfl) (by simp) ?_
                refine AllReady.cons rfl (fun K hK => ?_) ?_
                · rw [if_pos (by rfl)]
                  go_simp
                  refine (mix_any (after (padded l) k) r _ (after_ok _ _) ?hh).mono ?_
                  case hh => exact hg.keep ((hRd.keep hb2.out).keep hb3.out).b
                  rintro e w6 ⟨rfl, hb4⟩
                  have hb4 := Lib.hid hb4
                  refine hK _ _ ?_
                  clear hK K
                  refine wpAny_ready (rs := [5]) (by kernel_rfl) (by simp) ?_
                  refine AllReady.cons rfl (fun K hK => ?_) ?_
                  · with_reducible refine step_store_arr rfl rfl 59 (.tmp 3) (.tmp 14) rfl (w.heap.size + 1) .u32 8 (blk (after (padded l) k) r).get rfl rfl 59 _ (((hRd.keep hb2.out).keep hb3.out).keep hb4.out).s H8 ?_
                    refine hK _ _ ?_
                    clear hK K
                    refine wpAny_done (by kernel_rfl) ?_ _
                    exact ⟨rfl, rfl, (((hRd.keep hb2.out).keep hb3.out).keep hb4.out).words _⟩
                  exact AllReady.nil
                exact AllReady.nil
              exact AllReady.nil
            exact AllReady.nil
          refine AllReady.cons rfl (fun K hK => ?_) ?_
          · rw [if_pos (by rfl)]
            go_simp
            refine (block_arr q r c _ hBd (by unfold maxLen; omega)).mono ?_
            rintro e w4 ⟨rfl, hb2⟩
            have hb2 := Lib.hid hb2
            refine hK _ _ ?_
            clear hK K
            refine wpAny_ready (rs := [0, 3]) (by kernel_rfl) (by simp) ?_
            refine AllReady.cons rfl (fun K hK => ?_) ?_
            · with_reducible refine step_load_arr rfl 59 (.tmp 3) rfl (w.heap.size + 1) rfl .u32 8 59 (W8.get (after (padded l) k)) ?hh _ Tryd.underlying59 rfl H8 ?_
              case hh => first | exact hRd.s | exact (hRd.keep hb2.out).s | exact ((hRd.keep hb2.out).keep hb3.out).s
              refine hK _ _ ?_
              clear hK K
              refine wpAny_ready (rs := [3]) (by kernel_rfl) (by simp) ?_
              refine AllReady.cons rfl (fun K hK => ?_) ?_
              · rw [if_pos (by rfl)]
                go_simp
                refine (spread_any r _).mono ?_
                rintro e w5 ⟨rfl, hb3⟩
                have hb3 := Lib.hid hb3
                refine hK _ _ ?_
                clear hK K
                refine wpAny_ready (rs := [4]) (by kernel_rfl) (by simp) ?_
                refine AllReady.cons rfl (fun K hK => ?_) ?_
                · rw [if_pos (by rfl)]
                  go_simp
                  refine (mix_any (after (padded l) k) r _ (after_ok _ _) ?hh).mono ?_
                  case hh => exact hg.keep ((hRd.keep hb2.out).keep hb3.out).b
                  rintro e w6 ⟨rfl, hb4⟩
                  have hb4 := Lib.hid hb4
                  refine hK _ _ ?_
                  clear hK K
                  refine wpAny_ready (rs := [5]) (by kernel_rfl) (by simp) ?_
                  refine AllReady.cons rfl (fun K hK => ?_) ?_
                  · with_reducible refine step_store_arr rfl rfl 59 (.tmp 3) (.tmp 14) rfl (w.heap.size + 1) .u32 8 (blk (after (padded l) k) r).get rfl rfl 59 _ (((hRd.keep hb2.out).keep hb3.out).keep hb4.out).s H8 ?_
                    refine hK _ _ ?_
                    clear hK K
                    refine wpAny_done (by kernel_rfl) ?_ _
                    exact ⟨rfl, rfl, (((hRd.keep hb2.out).keep hb3.out).keep hb4.out).words _⟩
                  exact AllReady.nil
                exact AllReady.nil
              exact AllReady.nil
            refine AllReady.cons rfl (fun K hK => ?_) ?_
            · rw [if_pos (by rfl)]
              go_simp
              refine (spread_any r _).mono ?_
              rintro e w5 ⟨rfl, hb3⟩
              have hb3 := Lib.hid hb3
              refine hK _ _ ?_
              clear hK K
              refine wpAny_ready (rs := [0]) (by kernel_rfl) (by simp) ?_
              refine AllReady.cons rfl (fun K hK => ?_) ?_
              · with_reducible refine step_load_arr rfl 59 (.tmp 3) rfl (w.heap.size + 1) rfl .u32 8 59 (W8.get (after (padded l) k)) ?hh _ Tryd.underlying59 rfl H8 ?_
                case hh => first | exact hRd.s | exact (hRd.keep hb2.out).s | exact ((hRd.keep hb2.out).keep hb3.out).s
                refine hK _ _ ?_
                clear hK K
                refine wpAny_ready (rs := [4]) (by kernel_rfl) (by simp) ?_
                refine AllReady.cons rfl (fun K hK => ?_) ?_
                · rw [if_pos (by rfl)]
                  go_simp
                  refine (mix_any (after (padded l) k) r _ (after_ok _ _) ?hh).mono ?_
                  case hh => exact hg.keep ((hRd.keep hb2.out).keep hb3.out).b
                  rintro e w6 ⟨rfl, hb4⟩
                  have hb4 := Lib.hid hb4
                  refine hK _ _ ?_
                  clear hK K
                  refine wpAny_ready (rs := [5]) (by kernel_rfl) (by simp) ?_
                  refine AllReady.cons rfl (fun K hK => ?_) ?_
                  · with_reducible refine step_store_arr rfl rfl 59 (.tmp 3) (.tmp 14) rfl (w.heap.size + 1) .u32 8 (blk (after (padded l) k) r).get rfl rfl 59 _ (((hRd.keep hb2.out).keep hb3.out).keep hb4.out).s H8 ?_
                    refine hK _ _ ?_
                    clear hK K
                    refine wpAny_done (by kernel_rfl) ?_ _
                    exact ⟨rfl, rfl, (((hRd.keep hb2.out).keep hb3.out).keep hb4.out).words _⟩
                  exact AllReady.nil
                exact AllReady.nil
              exact AllReady.nil
            exact AllReady.nil
          exact AllReady.nil
        exact AllReady.nil
      case right =>
        intro w7 hR7
        obtain ⟨b, off, rfl, hbl, hcell⟩ := hB (by omega)
        have HC := Lib.hid hcell
        clear hcell
        have hdr := Lib.hid (show l.drop (64 * (k + 1)) = r.drop 64 by rw [HR.out, List.drop_drop]; congr 1)
        have hrl : r.length = l.length - 64 * k := by rw [HR.out, List.length_drop]
        have haf := Lib.hid (show after (padded l) (k + 1) = blk (after (padded l) k) r by rw [HR.out]; exact (after_whole l k (by omega)).symm)
        have HRL := Lib.hid hrl
        clear hrl hB hS
        go_wp2_with fail
        go_roundw
        case rel => exact ⟨k + 1, _, c - 64, by rw [hdr.out, List.length_drop], by have := HRL.out; omega, by rw [hdr.out, List.length_drop]; omega, by omega, by rw [hdr.out]; exact Bs.next hkc hbl HC.out, by rw [haf.out]; exact hR7⟩
        case measure => show r.length - 64 < r.length; omega
    · have hd : decide (64 ≤ (r.length : Int)) = false := decide_eq_false (by omega)
      have hrl : r.length = l.length - 64 * k := by rw [HR.out, List.length_drop]
      have HF := Lib.hid (show fin (after (padded l) k) r l.length = sumW l by rw [HR.out]; exact sum_fin l k hk (by omega))
      clear hrl
      go_wp2_with (with_reducible refine wpList_load_arr rfl 59 (.tmp 3) rfl (w.heap.size + 1) rfl .u32 8 59 (W8.get (after (padded l) k)) hS.s _ Tryd.underlying59 rfl H8 ?_)
      refine (finish_any (after (padded l) k) q r c l.length _ (after_ok _ _) (hB.keep hS.b) (by omega) hl (hg.keep hS.b)).mono ?_
      rw [HF.out]
      rintro e w2 ⟨rfl, hb2⟩
      have hS2 := hS.keep hb2
      clear hb2 hS hB
      go_wp2_with fail
      refine (told_any (sumW l) _ (after_ok _ _)).mono ?_
      rintro e w3 ⟨rfl, hb3⟩
      have hS3 := hS2.keep hb3
      clear hb3 hS2
      go_wp2_with (with_reducible refine wpList_store_arr rfl 25 (.tmp 2) (.tmp 22) rfl w.heap.size .u8 32 (tb (sumW l)) rfl rfl 25 _ hS3.z HN ?_)
      exact bodyPost_ret (results_arr rfl _ _ w.heap.size 25 .u8 32 (tb (sumW l)) _ rfl (hS3.z.setRow _) Tryd.underlying25 rfl HN) rfl ⟨rfl, below_setRow hS3.b (Nat.le_refl _) _⟩

end Go.Proofs.YtjcohlpjlifolaaDoor.ShaT
