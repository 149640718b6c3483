/-
  What sha.spread comes to: the 64 words of a block.
-/
import Derived.Test.YtjcohlpjlifolaaDoorShaMix
namespace Go.Proofs.YtjcohlpjlifolaaDoor.ShaT
open Go.RowKit Kit ShaMath
set_option linter.unusedVariables false
set_option maxRecDepth 100000

/-- After so many words. -/
structure SpRel (l : List UInt8) (w : World) (f : Nat → Nat) (wr : World) : Prop where
  b : Below w.heap.size w wr
  l : Arr wr w.heap.size .u8 64 46 (byte l)
  z : Arr wr (w.heap.size + 1) .u32 64 61 (fun _ => 0)
  r : Arr wr (w.heap.size + 1 + 1) .u32 64 61 f
theorem SpRel.put {l : List UInt8} {w : World} {f : Nat → Nat} {wr : World} (h : SpRel l w f wr) (k v : Nat) : SpRel l w (upd f k v) (wr.setCell ⟨w.heap.size + 1 + 1, k, none⟩ (.int .u32 (v : Int))) :=
  ⟨h.b.setCell (by simp; omega) _, h.l.other _ _ (by simp; omega), h.z.other _ _ (by simp), h.r.set _ _⟩
theorem SpRel.drew {l : List UInt8} {w : World} {f : Nat → Nat} {wr : World} (h : SpRel l w f wr) : SpRel l w f wr.drew := ⟨h.b.drew, h.l, h.z, h.r⟩
theorem SpRel.drewN {l : List UInt8} {w : World} {f : Nat → Nat} {wr : World} (h : SpRel l w f wr) (q : Nat) : SpRel l w f (wr.drewN q) := by
  refine ⟨h.b.trans ⟨rfl, rfl, rfl, Nat.le_refl _, fun _ _ => rfl⟩, h.l.drewN q, h.z.drewN q, h.r.drewN q⟩
/-- So far the words are right. -/
def UpTo (l : List UInt8) (f : Nat → Nat) (k : Nat) : Prop := ∀ j, j < k → f j = wAt l j
theorem UpTo.next {l : List UInt8} {f : Nat → Nat} {k : Nat} (h : UpTo l f k) : UpTo l (upd f k (wAt l k)) (k + 1) := by
  intro j hj
  by_cases e : j = k
  · subst e; exact upd_same _ _ _
  · rw [upd_other _ _ _ _ e]; exact h j (by omega)

theorem four_or (a b c d : Nat) (ha : a < 256) (hb : b < 256) (hc : c < 256) (hd : d < 256) :
    bits .or .u32 (bits .or .u32 (bits .or .u32 ((a : Int) * 16777216) ((b : Int) * 65536)) ((c : Int) * 256)) (d : Int) = ((a * 16777216 + b * 65536 + c * 256 + d : Nat) : Int) := by
  have e1 : (a : Int) * 16777216 = ((a * 16777216 : Nat) : Int) := by omega
  have e2 : (b : Int) * 65536 = ((b * 65536 : Nat) : Int) := by omega
  have e3 : (c : Int) * 256 = ((c * 256 : Nat) : Int) := by omega
  rw [e1, e2, e3, u32_or_nat _ _ (by omega) (by omega), nat_join 24 (a * 16777216) (b * 65536) (by omega) (by omega),
    u32_or_nat _ _ (by omega) (by omega), nat_join 16 (a * 16777216 + b * 65536) (c * 256) (by omega) (by omega),
    u32_or_nat _ _ (by omega) (by omega), nat_join 8 (a * 16777216 + b * 65536 + c * 256) d (by omega) (by omega)]
theorem word_val (l : List UInt8) (k : Nat) (h : k < 16) :
    bits .or .u32 (bits .or .u32 (bits .or .u32 ((byte l (4 * k) : Int) * 16777216) ((byte l (4 * k + 1) : Int) * 65536)) ((byte l (4 * k + 2) : Int) * 256)) (byte l (4 * k + 3) : Int) = (wAt l k : Int) := by
  rw [wAt_first l k h]
  exact four_or _ _ _ _ (byte_lt _ _) (byte_lt _ _) (byte_lt _ _) (byte_lt _ _)
theorem smallX_val (x : Nat) (h : x < 4294967296) : bits .xor .u32 (bits .xor .u32 (rot x 7 : Int) (rot x 18 : Int)) ((x : Int) / 8) = (smallX x : Int) := by
  rw [show (x : Int) / 8 = ((x / 8 : Nat) : Int) by omega, u32_xor_nat _ _ (rot_lt _ _ h (by decide)) (rot_lt _ _ h (by decide)), u32_xor_nat _ _ (xor_lt _ _ (rot_lt _ _ h (by decide)) (rot_lt _ _ h (by decide))) (by omega)]
  rfl
theorem smallY_val (x : Nat) (h : x < 4294967296) : bits .xor .u32 (bits .xor .u32 (rot x 17 : Int) (rot x 19 : Int)) ((x : Int) / 1024) = (smallY x : Int) := by
  rw [show (x : Int) / 1024 = ((x / 1024 : Nat) : Int) by omega, u32_xor_nat _ _ (rot_lt _ _ h (by decide)) (rot_lt _ _ h (by decide)), u32_xor_nat _ _ (xor_lt _ _ (rot_lt _ _ h (by decide)) (rot_lt _ _ h (by decide))) (by omega)]
  rfl
theorem wrap_add (x y : Nat) : IntKind.u32.wrap ((x : Int) + (y : Int)) = (((x + y) % 4294967296 : Nat) : Int) := by
  rw [IntKind.wrap_u32]
  exact add_cast x y
theorem next_of (l : List UInt8) (i : Nat) (h : 16 ≤ i) (h' : i < 64) : (((smallX (wAt l (i - 15)) + wAt l (i - 7)) % 4294967296 + smallY (wAt l (i - 2))) % 4294967296 + wAt l (i - 16)) % 4294967296 = wAt l i := by
  obtain ⟨m, rfl⟩ : ∃ m, i = m + 16 := ⟨i - 16, by omega⟩
  rw [wAt_next l m (by omega), show m + 16 - 15 = m + 1 by omega, show m + 16 - 7 = m + 9 by omega, show m + 16 - 2 = m + 14 by omega, show m + 16 - 16 = m by omega]
  generalize smallX (wAt l (m + 1)) = a
  generalize wAt l (m + 9) = b
  generalize smallY (wAt l (m + 14)) = c
  generalize wAt l m = d
  omega

set_option maxHeartbeats 1000000 in
theorem spread_any (l : List UInt8) (w : World) :
    Calls Tryd.prog 37 #[.agg (row .u8 64 (byte l))] w fun e w' => e = .returned (.agg (row .u32 64 (wAt l))) ∧ Below w.heap.size w w' := by
  obtain ⟨hz, hn⟩ := zero_of_info info_w64
  have HN := Lib.hid hn
  clear hn
  go_enter Tryd.func37, Tryd.ntmps37
  go_wp2_with fail
  go_loopw [10] (fun i wr => ∃ k : Nat, k ≤ 16 ∧ i = .int .i64 k ∧ ∃ f, SpRel l w f wr ∧ UpTo l f k) (fun i _ => 16 - (intOf i).toNat)
  case atStart => exact ⟨0, by decide, rfl, _, ⟨below3 _ _ _ _, (Arr.new.al _).al _, Arr.new1.al _, Arr.new2⟩, fun j hj => by omega⟩
  case round =>
    obtain ⟨k, hk, rfl, f, hR, hU⟩ := hrel
    by_cases hlt : k < 16
    · have c0 := hR.l.at_ (4 * k) (by omega)
      have c1 := hR.l.at_ (4 * k + 1) (by omega)
      have c2 := hR.l.at_ (4 * k + 2) (by omega)
      have c3 := hR.l.at_ (4 * k + 3) (by omega)
      have b0 := byte_lt l (4 * k)
      have b1 := byte_lt l (4 * k + 1)
      have b2 := byte_lt l (4 * k + 2)
      have b3 := byte_lt l (4 * k + 3)
      have hv := word_val l k hlt
      have m0 : IntKind.i64.wrap (4 * (k : Int)) = 4 * (k : Int) := IntWalk.i64_in _ (by omega)
      have m1 : IntKind.i64.wrap (4 * (k : Int) + 1) = 4 * (k : Int) + 1 := IntWalk.i64_in _ (by omega)
      have m2 : IntKind.i64.wrap (4 * (k : Int) + 2) = 4 * (k : Int) + 2 := IntWalk.i64_in _ (by omega)
      have m3 : IntKind.i64.wrap (4 * (k : Int) + 3) = 4 * (k : Int) + 3 := IntWalk.i64_in _ (by omega)
      have n0 : (4 * (k : Int)).toNat = 4 * k := by omega
      have n1 : (4 * (k : Int) + 1).toNat = 4 * k + 1 := by omega
      have n2 : (4 * (k : Int) + 2).toNat = 4 * k + 2 := by omega
      have n3 : (4 * (k : Int) + 3).toNat = 4 * k + 3 := by omega
      have p0 : 0 ≤ 4 * (k : Int) ∧ 4 * (k : Int) < 64 := by omega
      have p1 : 0 ≤ 4 * (k : Int) + 1 ∧ 4 * (k : Int) + 1 < 64 := by omega
      have p2 : 0 ≤ 4 * (k : Int) + 2 ∧ 4 * (k : Int) + 2 < 64 := by omega
      have p3 : 0 ≤ 4 * (k : Int) + 3 ∧ 4 * (k : Int) + 3 < 64 := by omega
      have p4 : 0 ≤ (k : Int) ∧ (k : Int) < 64 := by omega
      go_wp2_with fail
      go_still_tail 31, (by kernel_rfl)
      change wpList _ _ _ _ _ wr.drew
      have hRd := hR.drew
      clear c0 c1 c2 c3 hR m0 m1 m2 m3 n0 n1 n2 n3 p0 p1 p2 p3 p4
      generalize wr.drew = w2 at hRd ⊢
      have c1 := hRd.r.at_ k (by omega)
      have z1 := hRd.r.frz k
      go_wp2_with fail
      go_roundw
      case rel => exact ⟨k + 1, by omega, by go_num, _, hRd.put k _, hU.next⟩
      case measure => simp [intOf]; omega
    · obtain rfl : k = 16 := by omega
      rw [show ((16 : Nat) : Int) = 16 from rfl]
      go_wp2_with fail
      go_loopw [5] (fun i wr => ∃ k : Nat, 16 ≤ k ∧ k ≤ 64 ∧ i = .int .i64 k ∧ ∃ f, SpRel l w f wr ∧ UpTo l f k) (fun i _ => 64 - (intOf i).toNat)
      case atStart => exact ⟨16, by decide, by decide, rfl, f, hR, hU⟩
      case round =>
        obtain ⟨k, hk0, hk, rfl, f, hR, hU⟩ := hrel
        by_cases hlt : k < 64
        · have c15 := hR.r.at_ (k - 15) (by omega)
          have c2 := hR.r.at_ (k - 2) (by omega)
          rw [hU (k - 15) (by omega)] at c15
          rw [hU (k - 2) (by omega)] at c2
          have v1 := smallX_val (wAt l (k - 15)) (wAt_lt l _ (by omega))
          have v2 := smallY_val (wAt l (k - 2)) (wAt_lt l _ (by omega))
          go_wp2_with fail
          go_quiet (fail)
          have hR2 := hR.drewN nq
          clear c15 c2 hR
          generalize wr.drewN nq = w2 at hR2 ⊢
          go_wp2_with (go_at_call 54; (first | (with_reducible refine (turn_7 _ _ (wAt_lt l _ (by omega))).mono ?_) | (with_reducible refine (turn_18 _ _ (wAt_lt l _ (by omega))).mono ?_) | (with_reducible refine (turn_17 _ _ (wAt_lt l _ (by omega))).mono ?_) | (with_reducible refine (turn_19 _ _ (wAt_lt l _ (by omega))).mono ?_)); rintro e w' ⟨rfl, rfl⟩)
          clear v1 v2
          have c7 := hR2.r.at_ (k - 7) (by omega)
          have c16 := hR2.r.at_ (k - 16) (by omega)
          rw [hU (k - 7) (by omega)] at c7
          rw [hU (k - 16) (by omega)] at c16
          have hnext := Lib.hid (next_of l k hk0 hlt)
          have s1 := wrap_add (smallX (wAt l (k - 15))) (wAt l (k - 7))
          obtain ⟨x1, hx1⟩ : ∃ x, x = (smallX (wAt l (k - 15)) + wAt l (k - 7)) % 4294967296 := ⟨_, rfl⟩
          rw [← hx1] at s1
          have s2 := wrap_add x1 (smallY (wAt l (k - 2)))
          obtain ⟨x2, hx2⟩ : ∃ x, x = (x1 + smallY (wAt l (k - 2))) % 4294967296 := ⟨_, rfl⟩
          rw [← hx2] at s2
          have s3 := wrap_add x2 (wAt l (k - 16))
          rw [show (x2 + wAt l (k - 16)) % 4294967296 = wAt l k by rw [hx2, hx1]; exact hnext.out] at s3
          clear hx1 hx2 hnext
          have m0 : IntKind.i64.wrap ((k : Int) - 7) = (k : Int) - 7 := IntWalk.i64_in _ (by omega)
          have m1 : IntKind.i64.wrap ((k : Int) - 16) = (k : Int) - 16 := IntWalk.i64_in _ (by omega)
          have n0 : ((k : Int) - 7).toNat = k - 7 := by omega
          have n1 : ((k : Int) - 16).toNat = k - 16 := by omega
          have p0 : 0 ≤ (k : Int) - 7 ∧ (k : Int) - 7 < 64 := by omega
          have p1 : 0 ≤ (k : Int) - 16 ∧ (k : Int) - 16 < 64 := by omega
          have p2 : 7 ≤ (k : Int) ∧ 16 ≤ (k : Int) ∧ (k : Int) < 64 ∧ 0 ≤ (k : Int) := by omega
          have p3 : (k : Int) - 7 < 64 ∧ (k : Int) - 16 < 64 := by omega
          go_wp2_with fail
          go_still_tail 15, (by kernel_rfl)
          change wpList _ _ _ _ _ w2.drew
          have hRd := hR2.drew
          clear c7 c16 m0 m1 n0 n1 p0 p1 p2 p3 s1 s2 s3 hR2
          generalize w2.drew = w3 at hRd ⊢
          have c1 := hRd.r.at_ k hlt
          have z1 := hRd.r.frz k
          go_wp2_with fail
          go_roundw
          case rel => exact ⟨k + 1, by omega, by omega, by go_num, _, hRd.put k _, hU.next⟩
          case measure => simp [intOf]; omega
        · have hs2 : Arr wr (w.heap.size + 1 + 1) .u32 64 61 (wAt l) := hR.r.congr fun j hj => hU j (by omega)
          have HB := Lib.hid hR.b
          have hZ := hR.z
          clear hU hR
          go_wp2_with (first | (with_reducible refine wpList_load_arr rfl 61 (.tmp 3) rfl (w.heap.size + 1 + 1) rfl .u32 64 61 (wAt l) hs2 _ Tryd.underlying61 rfl HN ?_) | (with_reducible refine wpList_store_arr rfl 61 (.tmp 2) (.tmp 88) rfl (w.heap.size + 1) .u32 64 (wAt l) rfl rfl 61 _ hZ HN ?_))
          exact bodyPost_ret (results_arr rfl _ _ (w.heap.size + 1) 61 .u32 64 (wAt l) _ rfl (hZ.setRow _) Tryd.underlying61 rfl HN) rfl ⟨rfl, below_setRow HB.out (by omega) _⟩

end Go.Proofs.YtjcohlpjlifolaaDoor.ShaT
