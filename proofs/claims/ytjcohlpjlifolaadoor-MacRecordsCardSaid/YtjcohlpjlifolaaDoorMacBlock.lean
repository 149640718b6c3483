/-
  What mac.block, mac.turned and mac.behind come to.
-/
import Derived.Test.YtjcohlpjlifolaaDoorMacKit
import Derived.Laws.BitsAllLaws
namespace Go.Proofs.YtjcohlpjlifolaaDoor.MacT
open Go.RowKit Kit ShaMath ShaT MacM
set_option linter.unusedVariables false
set_option maxRecDepth 100000

theorem info_u8 : (Tryd.prog.info? 5).map (·.size) = some 1 := by kernel_rfl
theorem u8_parts : (Tryd.prog.info? 5).map (fun i => (i.zero, i.size, i.bytes)) = some (some (.int .u8 0), 1, 1) := by kernel_rfl
theorem zeros_eq (n : Nat) : bytesOf n (fun _ => 0) = zeros n := by
  unfold bytesOf zeros
  apply List.ext_getElem
  · simp
  · intro i h1 h2
    simp
theorem byt_zero {w : World} {b n : Nat} {t : TypeId} (h : Arr w b .u8 n t fun _ => 0) : Byt w b t (zeros n) := by
  have := arr_byt h (fun _ => by decide)
  rwa [zeros_eq] at this
theorem filled_eq {l : List UInt8} (hl : l.length ≤ 64) : bytesOf 64 (byte l) = (zeros 64).take 0 ++ l ++ (zeros 64).drop (0 + l.length) := by
  rw [List.take_zero, List.nil_append, Nat.zero_add, filled l hl]

set_option maxHeartbeats 2000000 in
theorem mblock_short (p : Option Addr) (l : List UInt8) (n cap : Nat) (w : World) (hn : l.length = n) (hb : Bs w p l) (hl : l.length ≤ 64) :
    Calls Tryd.prog 26 #[.slice p n cap] w fun e w' => e = .returned (.agg (row .u8 64 (keyAt l))) ∧ Below w.heap.size w w' := by
  obtain ⟨hz, hn2⟩ := zero_of_info info_b64'
  have HN := Lib.hid hn2
  clear hn2
  have HU := Lib.hid info_u8
  have HK := Lib.hid (show keyAt l = byte l by unfold keyAt; rw [shortKey_short (by omega)])
  obtain ⟨Z, hZ⟩ : ∃ Z, Z = bytesOf 64 (byte l) := ⟨_, rfl⟩
  have HZ := Lib.hid hZ
  have HF := Lib.hid (filled_eq hl)
  clear hZ
  subst hn
  have hd : decide (64 < (l.length : Int)) = false := decide_eq_false (by omega)
  go_enter Tryd.func26, Tryd.ntmps26
  go_wp2_with (with_reducible refine wpList_copy_bytes rfl (.tmp 11) (.tmp 12) 22 rfl 5 Tryd.underlying22 HU.out (w.heap.size + 1) 0 64 64 p cap (zeros 64) l 46 rfl rfl (byt_zero Arr.new1) hl ?c1 ?c2 (w.heap.size + 1) _ (Below.refl _ _) (Nat.le_refl _) Z (HZ.out.trans HF.out) ?_)
  case c1 => exact hb.keep (below2 _ _ _)
  case c2 => rw [zeros_length]; omega
  intro w1 hB hb1
  rw [HZ.out] at hB
  have hA := byt_arr hB (byte_lt l)
  have hbw := (below2 w (.cells (row .u8 64 fun _ => 0) 46) (.cells (row .u8 64 fun _ => 0) 46)).trans (hb1.mono (by omega))
  have hr : Arr w1 w.heap.size .u8 64 46 fun _ => 0 := ((Arr.new (w := w)).al (.cells (row .u8 64 fun _ => 0) 46)).keep hb1 (by omega)
  clear hB hb1
  go_wp2_with (first | (with_reducible refine wpList_load_arr rfl 46 (.tmp 3) rfl (w.heap.size + 1) rfl .u8 64 46 (byte l) hA _ Tryd.underlying46 rfl HN ?_) | (with_reducible refine wpList_store_arr rfl 46 (.tmp 2) (.tmp 14) rfl w.heap.size .u8 64 (byte l) rfl rfl 46 _ hr HN ?_))
  rw [HK.out]
  exact bodyPost_ret (results_arr rfl _ _ w.heap.size 46 .u8 64 (byte l) _ rfl (hr.setRow _) Tryd.underlying46 rfl HN) rfl ⟨rfl, below_setRow hbw (Nat.le_refl _) _⟩

set_option maxHeartbeats 2000000 in
theorem mblock_long (p : Option Addr) (l : List UInt8) (n cap : Nat) (w : World) (hn : l.length = n) (hb : Bs w p l) (hl : 64 < l.length) (hm : l.length ≤ 281474976710656) (hlc : l.length ≤ cap) (hc : cap ≤ 9223372036854775807) (hg : Tabs w) :
    Calls Tryd.prog 26 #[.slice p n cap] w fun e w' => e = .returned (.agg (row .u8 64 (keyAt l))) ∧ Below w.heap.size w w' := by
  obtain ⟨hz, hn2⟩ := zero_of_info info_b64'
  obtain ⟨hz3, hn3⟩ := zero_of_info info_32
  have HN := Lib.hid hn2
  have H32 := Lib.hid hn3
  clear hn2 hn3
  have HU := Lib.hid info_u8
  obtain ⟨L, hL⟩ : ∃ L, L = sumList l := ⟨_, rfl⟩
  have HK := Lib.hid (show keyAt l = byte L by unfold keyAt; rw [shortKey_long hl, hL])
  have HS := Lib.hid (show L.length = 32 by rw [hL]; exact sumList_length l)
  have HL := Lib.hid hL
  obtain ⟨Z, hZ⟩ : ∃ Z, Z = bytesOf 64 (byte L) := ⟨_, rfl⟩
  have HZ := Lib.hid hZ
  have HF := Lib.hid (filled_eq (show L.length ≤ 64 by rw [HS.out]; decide))
  clear hL hZ
  subst hn
  have hd : decide (64 < (l.length : Int)) = true := decide_eq_true (by omega)
  go_enter Tryd.func26, Tryd.ntmps26
  go_wp2_with fail
  refine (sum_any p l cap _ ?hb hm hlc hc ?hg).mono ?_
  case hb => exact hb.keep (below2 _ _ _)
  case hg => exact hg.keep (below2 _ _ _)
  rintro e w1 ⟨rfl, hb1⟩
  have hz0 : w.heap.size + 1 + 1 ≤ w1.heap.size := by have := hb1.size; simp at this; omega
  have H2 := Lib.hid (((Arr.new (w := w) (k := .u8) (n := 64) (t := 46) (f := fun _ => 0)).al (.cells (row .u8 64 fun _ => 0) 46)).keep hb1 (by simp; omega))
  have H3 := Lib.hid ((Arr.new1 (w := w) (o := .cells (row .u8 64 fun _ => 0) 46) (k := .u8) (n := 64) (t := 46) (f := fun _ => 0)).keep hb1 (by simp))
  have HB1 := Lib.hid ((below2 w (.cells (row .u8 64 fun _ => 0) 46) (.cells (row .u8 64 fun _ => 0) 46)).trans (hb1.mono (by simp; omega)))
  clear hb1
  go_wp2_with (first | (with_reducible refine wpList_store_arr rfl 25 (.tmp 4) (.tmp 9) rfl w1.heap.size .u8 32 (sumAt l) rfl rfl 25 _ Arr.new H32 ?_) | (with_reducible refine wpList_copy_bytes rfl (.tmp 11) (.tmp 12) 22 rfl 5 Tryd.underlying22 HU.out (w.heap.size + 1) 0 64 64 (some ⟨w1.heap.size, 0, none⟩) 32 (zeros 64) L 46 rfl ?c0 ?c4 ?c5 ?c1 ?c2 (w.heap.size + 1) _ (Below.refl _ _) (Nat.le_refl _) Z (HZ.out.trans HF.out) ?_))
  case c0 => rw [HS.out]; rfl
  case c4 => exact byt_zero ((H3.out.al _).setRow_ne _ (by have := H3.out.lt; omega))
  case c5 => rw [HS.out]; omega
  case c1 => rw [HL.out]; exact arr_bs (Arr.new.setRow _) (sumAt_lt l)
  case c2 => rw [zeros_length, HS.out]; omega
  intro w2 hB hb2
  rw [HZ.out] at hB
  have hA := byt_arr hB (byte_lt L)
  have hr0 : Arr ((w1.alloc (.cells (row .u8 32 fun _ => 0) 25)).setRow w1.heap.size (row .u8 32 (sumAt l))) w.heap.size .u8 64 46 fun _ => 0 := (H2.out.al _).setRow_ne _ (by omega)
  have hr := hr0.keep hb2 (by omega)
  have hbw := (below_setRow (HB1.out.alloc (by omega) (.cells (row .u8 32 fun _ => 0) 25)) (show w.heap.size ≤ w1.heap.size by omega) (row .u8 32 (sumAt l))).trans (hb2.mono (by omega))
  clear hB hb2 hr0
  go_wp2_with (first | (with_reducible refine wpList_load_arr rfl 46 (.tmp 3) rfl (w.heap.size + 1) rfl .u8 64 46 (byte L) hA _ Tryd.underlying46 rfl HN ?_) | (with_reducible refine wpList_store_arr rfl 46 (.tmp 2) (.tmp 14) rfl w.heap.size .u8 64 (byte L) rfl rfl 46 _ hr HN ?_))
  rw [HK.out]
  exact bodyPost_ret (results_arr rfl _ _ w.heap.size 46 .u8 64 (byte L) _ rfl (hr.setRow _) Tryd.underlying46 rfl HN) rfl ⟨rfl, below_setRow hbw (Nat.le_refl _) _⟩

theorem mblock_any (p : Option Addr) (l : List UInt8) (n cap : Nat) (w : World) (hn : l.length = n) (hb : Bs w p l) (hm : l.length ≤ 281474976710656) (hlc : l.length ≤ cap) (hc : cap ≤ 9223372036854775807) (hg : Tabs w) :
    Calls Tryd.prog 26 #[.slice p n cap] w fun e w' => e = .returned (.agg (row .u8 64 (keyAt l))) ∧ Below w.heap.size w w' := by
  by_cases h : 64 < l.length
  · exact mblock_long p l n cap w hn hb h hm hlc hc hg
  · exact mblock_short p l n cap w hn hb (by omega)

/-- After so many bytes. -/
structure TurnRel (w : World) (K : Nat → Nat) (v k : Nat) (wr : World) : Prop where
  b : Below w.heap.size w wr
  a : Arr wr w.heap.size .u8 64 46 (fun j => if j < k then padAt K v j else K j)
  z : Arr wr (w.heap.size + 1) .u8 64 46 (fun _ => 0)
theorem TurnRel.next {w : World} {K : Nat → Nat} {v k : Nat} {wr : World} (h : TurnRel w K v k wr) : TurnRel w K v (k + 1) (wr.setCell ⟨w.heap.size, k, none⟩ (.int .u8 ((K k ^^^ v : Nat) : Int))) :=
  ⟨h.b.setCell (by simp) _, (h.a.set k (K k ^^^ v)).congr fun j hj => by
    unfold upd
    show (if j = k then K k ^^^ v else if j < k then padAt K v j else K j) = if j < k + 1 then padAt K v j else K j
    by_cases e : j = k
    · subst e
      rw [if_pos rfl, if_pos (by omega)]
      rfl
    · rw [if_neg e]
      by_cases h1 : j < k
      · rw [if_pos h1, if_pos (by omega)]
      · rw [if_neg h1, if_neg (by omega)], h.z.other _ _ (by simp)⟩

set_option maxHeartbeats 2000000 in
theorem turned_any (K : Nat → Nat) (v : Nat) (w : World) (hK : ∀ j, K j < 256) (hv : v < 256) :
    Calls Tryd.prog 42 #[.agg (row .u8 64 K), .int .u8 (v : Int)] w fun e w' => e = .returned (.agg (row .u8 64 (padAt K v))) ∧ Below w.heap.size w w' := by
  obtain ⟨hz, hn2⟩ := zero_of_info info_b64'
  have HN := Lib.hid hn2
  clear hn2
  have HK := Lib.hid hK
  clear hK
  go_enter Tryd.func42, Tryd.ntmps42
  go_wp2_with fail
  go_loopw [6] (fun i wr => ∃ k : Nat, k ≤ 64 ∧ i = .int .i64 k ∧ TurnRel w K v k wr) (fun i _ => 64 - (intOf i).toNat)
  case atStart => exact ⟨0, by decide, rfl, below2 _ _ _, (Arr.new.al _).congr (fun j _ => by simp), Arr.new1⟩
  case round =>
    obtain ⟨k, hk, rfl, hR⟩ := hrel
    by_cases hlt : k < 64
    · have c0 := hR.a.at_ k hlt
      rw [if_neg (Nat.lt_irrefl k)] at c0
      have z0 := hR.a.frz k
      have hkk := HK.out k
      have hx := u8_xor_nat (K k) v hkk hv
      have HX := Lib.hid hR
      clear hR
      go_wp2
      go_roundw
      case rel => exact ⟨k + 1, by omega, by go_num, HX.out.next⟩
      case measure => simp [intOf]; omega
    · have hA : Arr wr w.heap.size .u8 64 46 (padAt K v) := hR.a.congr fun j hj => by show (if j < k then padAt K v j else K j) = _; rw [if_pos (by omega)]
      have hZ := hR.z
      have hb := hR.b
      clear hR
      go_wp2_with (first | (with_reducible refine wpList_load_arr rfl 46 (.tmp 2) rfl w.heap.size rfl .u8 64 46 (padAt K v) hA _ Tryd.underlying46 rfl HN ?_) | (with_reducible refine wpList_store_arr rfl 46 (.tmp 4) (.tmp 16) rfl (w.heap.size + 1) .u8 64 (padAt K v) rfl rfl 46 _ hZ HN ?_))
      exact bodyPost_ret (results_arr rfl _ _ (w.heap.size + 1) 46 .u8 64 (padAt K v) _ rfl (hZ.setRow _) Tryd.underlying46 rfl HN) rfl ⟨rfl, below_setRow hb (by omega) _⟩

end Go.Proofs.YtjcohlpjlifolaaDoor.MacT
