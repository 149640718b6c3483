/-
  FrameBounds: a word may have up to 512 bytes, a request up to 32 words, in a row; one more of either is none, as soon as it is told.
-/
import Derived.Test.YtadffjmpkeaikaaDoorFrameBack0
import Derived.Deep.RegionHeld
import Derived.BigQuiet
import Derived.Deep.QuietTactic
namespace Go.Proofs.YtadffjmpkeaikaaDoor.frameBounds
open Go.RowKit Kit BytesIn ReplyMath ReplyT NumMath NumL FrameMath FrameT FrameM FrameL
set_option linter.unusedVariables false
set_option maxRecDepth 100000
-- ASKS: NumL.Gd

/-- So many words of one byte. -/
def rowW (k : Nat) : List (List UInt8) := List.replicate k [119]
theorem rowW_len (k : Nat) : (rowW k).length = k := List.length_replicate
theorem rowW_small (k : Nat) : ∀ s ∈ rowW k, s.length ≤ 60 := fun s hs => by
  rw [List.eq_of_mem_replicate hs]
  decide
theorem rowW_succ (k : Nat) : rowW (k + 1) = rowW k ++ [[119]] := List.replicate_succ'
theorem one_len (s : List UInt8) (h : s.length ≤ 600) : (texts [s]).length ≤ 700 := by
  have h1 := itoa_small s.length h
  rw [texts_told, List.length_append, told_len]
  have h2 : ([s].map bulk).flatten = bulk s := by simp
  rw [h2, bulk_told, List.length_append, told_len]
  have h3 : (Lib.itoa (([s].length : Nat) : Int)).length ≤ 3 := itoa_small 1 (by omega)
  simp only [List.length_append, List.length_cons, List.length_nil] at h3 ⊢
  omega
theorem rows_len (k : Nat) (h : k ≤ 40) : (texts (rowW k)).length ≤ 3000 := by
  have h2 := bulks_len (rowW k) (rowW_small k)
  rw [rowW_len] at h2
  have h3 := itoa_small (rowW k).length (by rw [rowW_len]; omega)
  rw [texts_told, List.length_append, told_len]
  omega
theorem rows_is (k : Nat) (h1 : 1 ≤ k) (h2 : k ≤ 32) : nextL (texts (rowW k)) = .is (rowW k) (texts (rowW k)).length := by
  have h := next_told (rowW k) [] (by rw [rowW_len]; exact h1) (by rw [rowW_len]; exact h2) (fun s hs => Nat.le_trans (rowW_small k s hs) (by decide))
  rwa [List.append_nil] at h
theorem rows_bad (k : Nat) (h1 : k = 0 ∨ 32 < k) (h2 : k ≤ 600) : nextL (texts (rowW k)) = .bad := by
  have h := next_many (rowW k) [] (by rw [rowW_len]; exact h1) (by rw [rowW_len]; exact h2)
  rwa [List.append_nil] at h
theorem one_is (s : List UInt8) (h : s.length ≤ 512) : nextL (texts [s]) = .is [s] (texts [s]).length := by
  have h := next_told [s] [] (by simp) (by simp) (fun t ht => by simp at ht; subst ht; exact h)
  rwa [List.append_nil] at h
theorem one_bad (s : List UInt8) (h : 512 < s.length) (h2 : s.length ≤ 600) : nextL (texts [s]) = .bad := by
  have h := next_long s [] h h2
  rwa [List.append_nil] at h
theorem part_five (k : Nat) (h1 : 1 ≤ k) (h2 : k ≤ 32) : nextL ((texts (rowW k)).take 5) = .part := by
  refine next_part (rowW k) _ ((texts (rowW k)).drop 5) (by rw [rowW_len]; exact h1) (by rw [rowW_len]; exact h2) (fun s hs => Nat.le_trans (rowW_small k s hs) (by decide)) (List.take_append_drop 5 _).symm (fun h => ?_)
  have h3 := congrArg List.length h
  rw [List.length_drop, List.length_nil, texts_told, List.length_append, told_len] at h3
  obtain ⟨m, rfl⟩ : ∃ m, k = m + 1 := ⟨k - 1, by omega⟩
  rw [show rowW (m + 1) = [119] :: rowW m from List.replicate_succ] at h3
  rw [List.map_cons, List.flatten_cons, List.length_append, bulk_told, List.length_append, told_len] at h3
  simp only [List.length_append, List.length_cons, List.length_nil] at h3
  omega
theorem none_five : nextL ((texts (rowW 0)).take 5) = .bad := by
  have h := rows_bad 0 (Or.inl rfl) (by decide)
  rwa [show (texts (rowW 0)).take 5 = texts (rowW 0) by decide +kernel]

theorem cells_row (X : List UInt8) (c : UInt8) : X ++ [c] = X ++ [c] := rfl
theorem lit1_at' (w : World) (g : Nat) (c : UInt8) (v : Int) (h : v = (c.toNat : Int)) (hg : w.heap.size = g) : Bs (w.alloc (.cells #[.int .u8 v] 5)) (some ⟨g, 0, none⟩) [c] := hg ▸ lit1_bs w c v h

set_option maxHeartbeats 4000000 in
theorem walk0 (c : UInt8) (j k0 : Nat) (w : World) (hj : j ≤ 65535) (hk0 : k0 ≤ 255) (hg : Gd w) :
    Calls Tryd.prog 8 #[.int .u8 (c.toNat : Int), .int .u16 (j : Int), .int .u8 (k0 : Int)] w fun e w' => e = .returned (.bool true) ∧ Below w.heap.size w w' := by
  have HG := Lib.hid hg
  have C0 := Lib.hid (shown_any w hg)
  obtain ⟨n, hn⟩ : ∃ n : Nat, (j : Int) % 601 = (n : Int) := ⟨j % 601, by omega⟩
  obtain ⟨k, hk⟩ : ∃ k : Nat, (k0 : Int) % 41 = (k : Int) := ⟨k0 % 41, by omega⟩
  have hn6 : n ≤ 600 := by omega
  have hk4 : k ≤ 40 := by omega
  have HO0 := Lib.hid (fun (W : World) (h : Below w.heap.size w W) => own_low (Own.new W) h.size)
  have HS0 := Lib.hid (fun (W : World) (h : Below w.heap.size w W) => OwnS.new W)
  clear hg
  go_enter Tryd.func8, Tryd.ntmps8
  go_wp2_with fail
  with_reducible refine C0.out.mono ?_
  rintro e w1 ⟨rfl, hb1⟩
  have HO1 := Lib.hid (HO0.out w1 hb1)
  have HB1 := Lib.hid (hb1.alloc hb1.size (.cells #[] 5))
  clear hb1 C0 HO0
  go_wp2_with fail
  simp only [hn, hk]
  clear hn hk
  go_loopw [10, 11] (fun v i wr => ∃ t : Nat, t ≤ n ∧ i = .int .i64 t ∧ Below w.heap.size w wr ∧ Hid (Own w.heap.size wr v (List.replicate t c))) (fun _ i _ => n - (intOf i).toNat)
  case atStart => exact ⟨0, Nat.zero_le _, rfl, HB1.out, HO1⟩
  case round =>
    obtain ⟨t, ht, rfl, hb, HO⟩ := hrel
    clear HO1 HB1
    by_cases hlt : t < n
    · have d1 : decide ((t : Int) < (n : Int)) = true := decide_eq_true (by omega)
      have HOA := Lib.hid (own_keep HO.out (below1 wr (.cells #[.int .u8 (c.toNat : Int)] 5)))
      have HBA := Lib.hid (hb.alloc hb.size (.cells #[.int .u8 (c.toNat : Int)] 5))
      have HL1 := Lib.hid (lit1_at' wr wr.heap.size c _ rfl rfl)
      have HN := Lib.hid (show List.replicate (t + 1) c = List.replicate t c ++ [c] from List.replicate_succ')
      have HXl := Lib.hid (show (List.replicate t c).length ≤ 1048576 by rw [List.length_replicate]; omega)
      obtain ⟨X, hX⟩ : ∃ X, X = List.replicate t c := ⟨_, rfl⟩
      rw [← hX] at HOA HN HXl
      clear HO hX
      go_wp2_with (at_builtin; refine wpList_append_bs (w0 := w) rfl (.tmp 38) (.tmp 40) rfl _ X rfl HOA.out HBA.out (some ⟨_, 0, none⟩) [c] 1 1 rfl rfl HL1.out (fun h => by cases h) (by have := HXl.out; omega) _ rfl ?_; intro v1 w2 ho1 hb2)
      have HO2 := Lib.hid ho1
      clear ho1
      go_roundw
      case rel => exact ⟨t + 1, by omega, by go_num, hb2, by rw [HN.out]; exact HO2⟩
      case measure => simp [intOf]; omega
    · have d1 : decide ((t : Int) < (n : Int)) = false := decide_eq_false (by omega)
      obtain rfl : t = n := by omega
      obtain ⟨X, hX⟩ : ∃ X, X = List.replicate t c := ⟨_, rfl⟩
      rw [← hX] at HO
      have HXn := Lib.hid (show X.length = t by rw [hX, List.length_replicate])
      obtain ⟨px, cx, hv, hBx, -, hcx1, hcx2, hcx3⟩ := HO.out.ans
      rw [HXn.out] at hv
      subst hv
      have c1 := fun (W : World) (h : Below wr.heap.size wr W) => bs_string (hBx.keep h) t cx HXn.out.symm
      have c1r := c1 wr (Below.refl _ _)
      have HC1 := Lib.hid c1
      obtain ⟨S, hS⟩ : ∃ S : ByteArray, S = ⟨X.toArray⟩ := ⟨_, rfl⟩
      rw [← hS] at c1r HC1
      have HS := Lib.hid hS
      have CP := Lib.hid (show Calls Tryd.prog 15 #[.slice (some ⟨wr.heap.size, 0, none⟩) 1 1] (wr.alloc (.cells #[.string S] 9)) (Gives (texts [X]) (wr.alloc (.cells #[.string S] 9))) from
        put_any (some ⟨wr.heap.size, 0, none⟩) [X] 1 1 _ rfl (fun _ => ⟨_, 0, rfl, alloc_lt wr _ _, fun j hj => (match j, hj with
          | 0, _ => by rw [hS]; simp [World.cell?_alloc_mark]
          | j + 1, hj => absurd hj (by simp))⟩) (Nat.le_refl _) (by decide) (fun h => by cases h) (by decide) (fun s hs => by simp at hs; subst hs; rw [HXn.out]; omega) (HG.out.keep (hb.alloc hb.size _)))
      have HB1 := Lib.hid (hb.alloc hb.size (.cells #[.string S] 9))
      have HBr := Lib.hid (below1 wr (.cells #[.string S] 9))
      have HOl := Lib.hid (one_len X (by rw [HXn.out]; omega))
      have HI1 := Lib.hid (fun (h : t ≤ 512) => one_is X (by rw [HXn.out]; exact h))
      have HI2 := Lib.hid (fun (h : 512 < t) => one_bad X (by rw [HXn.out]; exact h) (by rw [HXn.out]; omega))
      clear c1 hX hS hBx hcx1 hcx2 hcx3 HO hb hlt
      go_wp2_with fail
      refine CP.out.mono ?_
      rintro e w2 ⟨v2, rfl, ha2, hb2⟩
      obtain ⟨Y, hY⟩ : ∃ Y, Y = texts [X] := ⟨_, rfl⟩
      rw [← hY] at ha2 HOl HI1 HI2
      obtain ⟨m, hm⟩ : ∃ m, m = Y.length := ⟨_, rfl⟩
      obtain ⟨py, cy, rfl, hBy, hy1, hy2, hy3⟩ := ans_form ha2 m hm.symm
      have HB2 := Lib.hid (HB1.out.trans (hb2.mono HB1.out.size))
      have HBr2 := Lib.hid (HBr.out.trans (hb2.mono HBr.out.size))
      have CN := Lib.hid (next_any py Y m cy w2 hm.symm hBy hy1 hy2 (by have := HOl.out; omega) hy3 (HG.out.keep HB2.out))
      clear ha2 hb2 hBy hY hm hy1 hy2 hy3 CP HB1 HBr
      go_wp2_with fail
      refine CN.out.mono ?_
      rintro e w3 ⟨v3, rfl, ha3, hb3⟩
      obtain ⟨n3, hn3⟩ : ∃ n3, n3 = (wordsR (nextL Y)).length := ⟨_, rfl⟩
      obtain ⟨E3, hE3⟩ : ∃ E3, E3 = errR (nextL Y) := ⟨_, rfl⟩
      obtain ⟨T3, hT3⟩ : ∃ T3, T3 = takenR (nextL Y) := ⟨_, rfl⟩
      rw [← hE3, ← hT3]
      have HN3 := Lib.hid hn3
      have HE3 := Lib.hid hE3
      obtain ⟨q3, c3, rfl, hS3, -⟩ := ansS_form ha3 n3 hn3.symm
      have HS3 := Lib.hid hS3
      have HB3 := Lib.hid (HB2.out.trans (hb3.mono HB2.out.size))
      have HBr3 := Lib.hid (HBr2.out.trans (hb3.mono HBr2.out.size))
      have HO3 := Lib.hid (OwnS.new w3)
      have HB4 := Lib.hid (below1 w3 (.cells #[] 9))
      clear ha3 hb3 hn3 hE3 hT3 hS3 CN HB2 HBr2
      go_wp2_with fail
      go_loopw [16, 17] (fun v i wr => ∃ r : Nat, r ≤ k ∧ i = .int .i64 r ∧ Below w3.heap.size w3 wr ∧ Hid (OwnS w3.heap.size wr v (rowW r))) (fun _ i _ => k - (intOf i).toNat)
      case atStart => exact ⟨0, Nat.zero_le _, rfl, HB4.out, HO3⟩
      case round =>
        obtain ⟨r, hr, rfl, hb, HO⟩ := hrel
        clear HO3 HB4
        by_cases hlt : r < k
        · have d1 : decide ((r : Int) < (k : Int)) = true := decide_eq_true (by omega)
          have HO1 := Lib.hid (HO.out.keep (below1 wr (.cells #[.string ⟨#[119]⟩] 9)))
          have HBq := Lib.hid (hb.alloc hb.size (.cells #[.string ⟨#[119]⟩] 9))
          have HCl := Lib.hid (show (wr.alloc (.cells #[.string ⟨#[119]⟩] 9)).cell? ⟨wr.heap.size, 0, none⟩ = some (.string ⟨#[119]⟩) by simp [World.cell?_alloc_mark])
          have HN := Lib.hid (rowW_succ r)
          have HKl := Lib.hid (show (rowW r).length ≤ 1048576 by rw [rowW_len]; omega)
          obtain ⟨Q, hQ⟩ : ∃ Q, Q = rowW r := ⟨_, rfl⟩
          rw [← hQ] at HO1 HN HKl
          clear HO hQ
          go_wp2_with (at_builtin; refine wpList_append_s (w0 := w3) rfl (.tmp 58) (.tmp 59) rfl _ Q rfl HO1.out HBq.out wr.heap.size ⟨#[119]⟩ [119] 1 rfl rfl HCl.out HKl.out ?_; intro v' w5 hown1 hb5)
          have HO5 := Lib.hid hown1
          clear hown1
          go_roundw
          case rel => exact ⟨r + 1, by omega, by go_num, hb5, by rw [HN.out]; exact HO5⟩
          case measure => simp [intOf]; omega
        · have d1 : decide ((r : Int) < (k : Int)) = false := decide_eq_false (by omega)
          obtain rfl : r = k := by omega
          have hA := ownS_ans HO.out
          obtain ⟨R, hR⟩ : ∃ R, R = rowW r := ⟨_, rfl⟩
          obtain ⟨qr, cr, rfl, hSr, hr1, hr2, hr3⟩ := ansS_form hA r (rowW_len r)
          have HRn := Lib.hid (show R.length = r by rw [hR, rowW_len])
          have HRs := Lib.hid (show ∀ s ∈ R, s.length ≤ 1024 by rw [hR]; exact fun s hs => Nat.le_trans (rowW_small r s hs) (by decide))
          rw [← hR] at hSr
          have HBw := Lib.hid (HB3.out.trans (hb.mono HB3.out.size))
          have HBrw := Lib.hid (HBr3.out.trans (hb.mono HBr3.out.size))
          have HS3w := Lib.hid (HS3.out.keep hb)
          have CPZ := Lib.hid (fun (W : World) (h : Below wr.heap.size wr W) => put_any qr R r cr W HRn.out (hSr.keep h) hr1 hr2 hr3 (by omega) HRs.out (HG.out.keep (HBw.out.trans (h.mono HBw.out.size))))
          have HZl := Lib.hid (rows_len r (by omega))
          have HI := Lib.hid (rows_is r)
          have HBad := Lib.hid (rows_bad r)
          have HFive := Lib.hid (part_five r)
          have HNoFive := Lib.hid (show r = 0 → nextL ((texts R).take 5) = .bad by rw [hR]; rintro rfl; exact none_five)
          rw [← hR] at HI HBad HFive HZl
          obtain ⟨Z, hZ⟩ : ∃ Z, Z = texts R := ⟨_, rfl⟩
          rw [← hZ] at CPZ HI HBad HFive HNoFive HZl
          obtain ⟨nz, hnz⟩ : ∃ nz, nz = Z.length := ⟨_, rfl⟩
          have HNz := Lib.hid hnz
          rw [← hnz] at HI HZl
          have hnz3 : nz ≤ 3000 := HZl.out
          have hbq := HBw.out.size
          clear HO hA hR hSr hr1 hr2 hr3 hZ hnz hb HB3 HBr3 HS3 hlt
          go_wp2_with fail
          refine (CPZ.out wr (Below.refl _ _)).mono ?_
          rintro e w4 ⟨v4, rfl, ha4, hb4⟩
          obtain ⟨p4, c4, rfl, hB4, hz1, hz2, hz3⟩ := ans_form ha4 nz HNz.out.symm
          have HB4 := Lib.hid hb4
          have CN4 := Lib.hid (next_any p4 Z nz c4 w4 HNz.out.symm hB4 hz1 hz2 (by omega) hz3 (HG.out.keep (HBw.out.trans (hb4.mono hbq))))
          clear ha4 hB4 hz1 hz2 hz3 hb4
          go_wp2_with fail
          refine CN4.out.mono ?_
          rintro e w5 ⟨v5, rfl, ha5, hb5⟩
          obtain ⟨n5, hn5⟩ : ∃ n5, n5 = (wordsR (nextL Z)).length := ⟨_, rfl⟩
          obtain ⟨E5, hE5⟩ : ∃ E5, E5 = errR (nextL Z) := ⟨_, rfl⟩
          obtain ⟨T5, hT5⟩ : ∃ T5, T5 = takenR (nextL Z) := ⟨_, rfl⟩
          rw [← hE5, ← hT5]
          have HN5 := Lib.hid hn5
          have HE5 := Lib.hid hE5
          have HT5 := Lib.hid hT5
          obtain ⟨q5, c5, rfl, -⟩ := ansS_form ha5 n5 hn5.symm
          have HB5 := Lib.hid (HB4.out.trans (hb5.mono HB4.out.size))
          clear ha5 hb5 hn5 hE5 hT5 CN4
          go_wp2_with fail
          refine (CPZ.out w5 HB5.out).mono ?_
          rintro e w6 ⟨v6, rfl, ha6, hb6⟩
          obtain ⟨p6, c6, rfl, hB6, hz1, hz2, hz3⟩ := ans_form ha6 nz HNz.out.symm
          have HB6 := Lib.hid (HB5.out.trans (hb6.mono HB5.out.size))
          have HP6 := Lib.hid hB6
          have HP6n := Lib.hid hz3
          clear ha6 hb6 hB6 hz3
          go_wp2_with fail
          refine (CPZ.out w6 HB6.out).mono ?_
          rintro e w7 ⟨v7, rfl, ha7, hb7⟩
          obtain ⟨p7, c7, rfl, -⟩ := ans_form ha7 nz HNz.out.symm
          have HB7 := Lib.hid (HB6.out.trans (hb7.mono HB6.out.size))
          obtain ⟨M, hM⟩ : ∃ M : Nat, M = min 5 nz := ⟨_, rfl⟩
          have q1 : ∀ W, (Instr.slice 22 (.slice p6 nz c6) none (some (.int .i64 (min 5 (nz : Int)))) none).run Tryd.prog W = .ok (.slice p6 M c6) W := fun W => by
            have h := sl_h p6 nz c6 M (by omega) W
            rw [partAt_zero, show (M : Int) = min 5 (nz : Int) by omega] at h
            exact h
          have CN7 := Lib.hid (next_any p6 (Z.take 5) M c6 w7 (by rw [List.length_take, ← HNz.out, hM]) (ReplyT.Bs.take (HP6.out.keep hb7) 5) (by omega) hz2 (by omega) HP6n.out (HG.out.keep (HBw.out.trans (HB7.out.mono hbq))))
          clear ha7 hb7 hM hz1 hz2
          go_wp2_with fail
          refine CN7.out.mono ?_
          rintro e w8 ⟨v8, rfl, ha8, hb8⟩
          obtain ⟨n8, hn8⟩ : ∃ n8, n8 = (wordsR (nextL (Z.take 5))).length := ⟨_, rfl⟩
          obtain ⟨E8, hE8⟩ : ∃ E8, E8 = errR (nextL (Z.take 5)) := ⟨_, rfl⟩
          obtain ⟨T8, hT8⟩ : ∃ T8, T8 = takenR (nextL (Z.take 5)) := ⟨_, rfl⟩
          rw [← hE8, ← hT8]
          have HE8 := Lib.hid hE8
          obtain ⟨q8, c8, rfl, -⟩ := ansS_form ha8 n8 hn8.symm
          have HB8 := Lib.hid (HB7.out.trans (hb8.mono HB7.out.size))
          have HBF := Lib.hid (HBw.out.trans (HB8.out.mono hbq))
          have HC8 := Lib.hid (fun (W : World) (h : Below w8.heap.size w8 W) => HC1.out W ((HBrw.out.trans (HB8.out.mono HBrw.out.size)).trans (h.mono (HBrw.out.trans (HB8.out.mono HBrw.out.size)).size)))
          have HS8 := Lib.hid (HS3w.out.keep HB8.out)
          have CP8 := Lib.hid (fun (W : World) (h : Below w8.heap.size w8 W) => (CPZ.out W (HB8.out.trans (h.mono HB8.out.size))).mono (R' := fun e w' => ∃ p c, e = .returned (.slice p nz c) ∧ Below w8.heap.size w8 w') fun e w' hh => by
            obtain ⟨v, he, ha, hb⟩ := hh
            obtain ⟨p, c, hv, -⟩ := ans_form ha nz HNz.out.symm
            exact ⟨p, c, by rw [he, hv], h.trans (hb.mono h.size)⟩)
          clear ha8 hb8 hn8 hE8 hT8 CN7 CPZ HB4 HB5 HB6 HB7 HC1 HBrw HS3w
          by_cases h512 : 512 < t
          · obtain rfl : E3 = 10 := by rw [HE3.out, HI2.out h512]; rfl
            have d2 : decide ((512 : Int) < (t : Int)) = true := decide_eq_true (by omega)
            clear HE3 HI1 HI2 HN3 HS8 HC8 CP8
            rcases (by omega : r = 0 ∨ (1 ≤ r ∧ r ≤ 32) ∨ 32 < r) with h | ⟨h, h'⟩ | h
            · subst h
              go_wp2_with fail
              go_ret
              exact ⟨rfl, HBF.out⟩
            · have d3 : decide ((1 : Int) ≤ (r : Int)) = true := decide_eq_true (by omega)
              have d4 : decide ((r : Int) ≤ 32) = true := decide_eq_true (by omega)
              go_wp2_with fail
              go_ret
              exact ⟨rfl, HBF.out⟩
            · have d3 : decide ((1 : Int) ≤ (r : Int)) = true := decide_eq_true (by omega)
              have d4 : decide ((r : Int) ≤ 32) = false := decide_eq_false (by omega)
              go_wp2_with fail
              go_ret
              exact ⟨rfl, HBF.out⟩
          · have hi := HI1.out (by omega)
            obtain rfl : E3 = 0 := by rw [HE3.out, hi]; rfl
            obtain rfl : n3 = 1 := by rw [HN3.out, hi]; rfl
            have d2 : decide ((512 : Int) < (t : Int)) = false := decide_eq_false (by omega)
            have hS := HS8.out
            rw [hi] at hS
            obtain ⟨bb, oo, rfl, hlt, hcell⟩ := hS (by show 0 < [X].length; simp)
            have hc0 : w8.cell? ⟨bb, oo, none⟩ = some (.string S) := by
              rw [HS.out]
              exact hcell 0 (by show 0 < [X].length; simp)
            have hcv : ∀ W, Below w8.heap.size w8 W → (convert 22 9 (.slice px t cx)).run Tryd.prog W = .ok (.string S) W := HC8.out
            have te : (S.toList == S.toList) = true := beq_self_eq_true _
            have bd : Below w8.heap.size w8 w8.drew := (Below.refl _ _).drew
            have HLt := Lib.hid hlt
            clear HE3 HI1 HI2 HN3 HS8 HC8 hS hcell hlt hi
            rcases (by omega : r = 0 ∨ (1 ≤ r ∧ r ≤ 32) ∨ 32 < r) with h | ⟨h, h'⟩ | h
            · have hE := HNoFive.out h
              have hE5 := HBad.out (Or.inl h) (by omega)
              obtain rfl : E8 = 10 := by rw [HE8.out, hE]; rfl
              obtain rfl : E5 = 10 := by rw [HE5.out, hE5]; rfl
              subst h
              clear hE hE5
              have hcq : ∀ q, (convert 22 9 (.slice px t cx)).run Tryd.prog (w8.drewN q) = .ok (.string S) (w8.drewN q) := fun q => hcv _ (FrameL.below_drewN (Below.refl _ _) q)
              clear hcv
              go_wp2_with fail
              go_quiet (fail)
              have hbq := FrameL.below_drewN (Below.refl w8.heap.size w8) nq
              clear hcq hc0
              generalize w8.drewN nq = wq at hbq ⊢
              go_wp2_with fail
              go_ret
              exact ⟨rfl, HBF.out.trans (hbq.mono HBF.out.size)⟩
            · have hE5 := HI.out h h'
              have hE := HFive.out h h'
              obtain rfl : E8 = 0 := by rw [HE8.out, hE]; rfl
              obtain rfl : E5 = 0 := by rw [HE5.out, hE5]; rfl
              obtain rfl : T5 = nz := by rw [HT5.out, hE5]; rfl
              obtain rfl : n5 = r := by rw [HN5.out, hE5]; exact HRn.out
              have d3 : decide ((1 : Int) ≤ (n5 : Int)) = true := decide_eq_true (by omega)
              have d4 : decide ((n5 : Int) ≤ 32) = true := decide_eq_true (by omega)
              clear hE hE5
              have CP9 := Lib.hid (fun (W : World) (h : Below w8.heap.size w8 W ∧ W.cell? ⟨bb, oo, none⟩ = some (.string S)) => (CP8.out W h.1).mono (R' := fun e w' => ∃ p c, e = .returned (.slice p T5 c) ∧ (Below w8.heap.size w8 w' ∧ w'.cell? ⟨bb, oo, none⟩ = some (.string S))) fun e w' hh => by
                obtain ⟨p, c, he, hb⟩ := hh
                exact ⟨p, c, he, hb, (hb.cell (p := ⟨bb, oo, none⟩) HLt.out).trans hc0⟩)
              have hcv2 : ∀ W, (Below w8.heap.size w8 W ∧ W.cell? ⟨bb, oo, none⟩ = some (.string S)) → (convert 22 9 (.slice px t cx)).run Tryd.prog W = .ok (.string S) W := fun W h => hcv W h.1
              clear hcv
              by_cases h10 : 10 ≤ n5
              · have d5 : decide ((10 : Int) ≤ (n5 : Int)) = true := decide_eq_true (by omega)
                go_wp2_with fail
                first
                  | (go_region_held (fun W => Below w8.heap.size w8 W ∧ W.cell? ⟨bb, oo, none⟩ = some (.string S)) (first | assumption | exact ⟨bd, hc0⟩)
                      (first | (go_at_call 15; (with_reducible refine (CP9.out _ (by assumption)).mono ?_); rintro e w9 ⟨pA, cA, rfl, bA⟩)))
                  | fail
                all_goals
                  clear hcv2
                  go_wp2_with fail
                  go_ret
                  exact ⟨rfl, HBF.out.trans (Below.mono (And.left (by first | exact bA | exact ⟨bd, hc0⟩)) HBF.out.size)⟩
              · have d5 : decide ((10 : Int) ≤ (n5 : Int)) = false := decide_eq_false (by omega)
                go_wp2_with fail
                first
                  | (go_region_held (fun W => Below w8.heap.size w8 W ∧ W.cell? ⟨bb, oo, none⟩ = some (.string S)) (first | assumption | exact ⟨bd, hc0⟩)
                      (first | (go_at_call 15; (with_reducible refine (CP9.out _ (by assumption)).mono ?_); rintro e w9 ⟨pA, cA, rfl, bA⟩)))
                  | fail
                all_goals
                  clear hcv2
                  go_wp2_with fail
                  go_ret
                  exact ⟨rfl, HBF.out.trans (Below.mono (And.left (by first | exact bA | exact ⟨bd, hc0⟩)) HBF.out.size)⟩
            · have hE5 := HBad.out (Or.inr h) (by omega)
              obtain rfl : E5 = 10 := by rw [HE5.out, hE5]; rfl
              have d3 : decide ((1 : Int) ≤ (r : Int)) = true := decide_eq_true (by omega)
              have d4 : decide ((r : Int) ≤ 32) = false := decide_eq_false (by omega)
              have d5 : decide ((10 : Int) ≤ (r : Int)) = true := decide_eq_true (by omega)
              clear hE5
              have hcq : ∀ q, (convert 22 9 (.slice px t cx)).run Tryd.prog (w8.drewN q) = .ok (.string S) (w8.drewN q) := fun q => hcv _ (FrameL.below_drewN (Below.refl _ _) q)
              clear hcv
              go_wp2_with fail
              go_quiet (fail)
              have hbq := FrameL.below_drewN (Below.refl w8.heap.size w8) nq
              clear hcq hc0
              generalize w8.drewN nq = wq at hbq ⊢
              go_wp2_with fail
              go_ret
              exact ⟨rfl, HBF.out.trans (hbq.mono HBF.out.size)⟩

theorem walk (c j k : Int) (w : World) (hc0 : 0 ≤ c) (hc1 : c ≤ 255) (hj0 : 0 ≤ j) (hj1 : j ≤ 65535) (hk0 : 0 ≤ k) (hk1 : k ≤ 255) (hg : Gd w) :
    Calls Tryd.prog 8 #[.int .u8 c, .int .u16 j, .int .u8 k] w fun e w' => e = .returned (.bool true) ∧ Below w.heap.size w w' := by
  obtain ⟨a, rfl⟩ := Int.eq_ofNat_of_zero_le hc0
  obtain ⟨b, rfl⟩ := Int.eq_ofNat_of_zero_le hj0
  obtain ⟨d, rfl⟩ := Int.eq_ofNat_of_zero_le hk0
  have e : (a : Int) = ((UInt8.ofNat a).toNat : Int) := by
    rw [UInt8.toNat_ofNat_of_lt' (by show a < 256; omega)]
  rw [e]
  exact walk0 (UInt8.ofNat a) b d w (by omega) (by omega) hg

end Go.Proofs.YtadffjmpkeaikaaDoor.frameBounds
