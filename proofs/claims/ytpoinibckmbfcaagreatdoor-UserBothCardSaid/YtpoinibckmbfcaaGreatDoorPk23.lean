/-
  Packed by program.
-/
import Derived.Test.YtpoinibckmbfcaaGreatDoorPk22
namespace Go.Proofs.YtpoinibckmbfcaaGreatDoor.MacT
open Go.RowKit Kit ShaMath ShaT MacM HexMath HexW NumL NumMath
open Go.Sort (grow)
set_option linter.unusedVariables false
set_option maxRecDepth 100000
theorem hex_n (p : Option Addr) (l : List UInt8) (n cap : Nat) (w : World) (hn : l.length = n) (hb : Bs w p l) (hl : l.length ≤ 70368744176640) :
  Calls Tryz.prog 105 #[.slice p n cap] w fun e w' => e = .returned (.string ⟨(hexL l).toArray⟩) ∧ Below w.heap.size w w' := by
 subst hn
 exact hex_any p l cap w hb hl
theorem derive_text (s : ByteArray) (q : Option Addr) (salt : List UInt8) (m cap2 : Nat) (r : Nat) (w : World) (h0 : 1 ≤ r) (h1 : r ≤ 64) (hz : s.size ≤ 140737488351232)
    (hm : salt.length = m) (hbs : Bs w q salt) (hl : salt.length ≤ 70368744160000) (hg : Tabs w) :
    Calls Tryz.prog 95 #[.slice (some ⟨w.heap.size, 0, none⟩) s.size (grownCap w s.size 0 5), .slice q m cap2, .int .i64 (r : Int)] (Lib.bytesWorld w 5 s) fun e w' => e = .returned (.agg (row .u8 32 (derAt s.data.toList salt r))) ∧ Below w.heap.size w w' := by
  have hb := bytesWorld_below w 5 s
  have hs : s.data.toList.length = s.size := by simp
  have hc1 := grownCap_ge w s.size 0 5
  have hc2 := grownCap_le_maxLen w s.size 0 5 (by unfold maxLen; omega)
  unfold maxLen at hc2
  refine (derive_in _ s.data.toList s.size _ q salt m cap2 r _ h0 h1 hs (bytes_bs w s) (by omega) (by omega) (by omega) hm (hbs.keep hb) hl (hg.keep hb)).mono ?_
  rintro e w' ⟨he, hb2⟩
  exact ⟨he, hb.trans (hb2.mono hb.size)⟩
set_option maxHeartbeats 1000000 in
theorem record_yes (s : ByteArray) (p : Option Addr) (l : List UInt8) (n cap r : Nat) (w : World) (h0 : 1 ≤ r) (h1 : r ≤ 64) (hz : s.size ≤ 140737488351232) (hn : l.length = n) (hb : Bs w p l) (hl : n ≤ 32) (hg : Tabs w) (hng : NumL.Gd w) :
  Calls Tryz.prog 65 #[.string s, .slice p n cap, .int .i64 (r : Int)] w fun e w' => e = .returned (.tuple #[.string ⟨(recL r l (derL s.data.toList l r)).toArray⟩, .bool true]) ∧ Below w.heap.size w w' := by
 obtain ⟨hz3, hn3⟩ := zero_of_info info_32
 have HN := Lib.hid hn3
 clear hn3
 have hconv := fun W => Lib.run_convert_string_bytes (P := Tryz.prog) W 9 30 5 s Tryz.underlying9 Tryz.underlying30 Tryz.underlying5
 have CD := Lib.hid (derive_text s p l n cap r w h0 h1 hz hn hb (by omega) hg)
 have HLn := Lib.hid hn
 have HB := Lib.hid hb
 have HG := Lib.hid hng
 have d1 : decide (32 < (n : Int)) = false := decide_eq_false (by omega)
 obtain ⟨D, hD⟩ : ∃ D, D = derAt s.data.toList l r := ⟨_, rfl⟩
 have HDL := Lib.hid (show ∀ j, D j < 256 by rw [hD]; exact derAt_lt _ _ _)
 have HDe := Lib.hid (show derL s.data.toList l r = bytesOf 32 D by rw [hD]; rfl)
 rw [HDe.out]
 rw [← hD] at CD
 obtain ⟨T, hT⟩ : ∃ T : ByteArray, T = ⟨(Lib.itoa (r : Int)).toArray⟩ := ⟨_, rfl⟩
 obtain ⟨H1, hH1⟩ : ∃ H1 : ByteArray, H1 = ⟨(hexL l).toArray⟩ := ⟨_, rfl⟩
 obtain ⟨H2, hH2⟩ : ∃ H2 : ByteArray, H2 = ⟨(hexL (bytesOf 32 D)).toArray⟩ := ⟨_, rfl⟩
 have ht2 : T.size ≤ 2 := by rw [hT, size_bytes]; exact itoa_small r (by omega)
 have hs1 : H1.size ≤ 64 := by rw [hH1, size_bytes, hexL_length]; omega
 have hs2 : H2.size ≤ 64 := by rw [hH2, size_bytes, hexL_length, bytesOf_length]; omega
 have HE := Lib.hid (rec_bytes hT hH1 hH2)
 rw [← HE.out]
 have CT := fun W (h : NumL.Gd W) => text_any (r : Int) (by omega) (by omega) W h
 rw [← hT] at CT
 have CH1 := fun W (h : Bs W p l) => hex_n p l n cap W hn h (by omega)
 rw [← hH1] at CH1
 have CH2 := fun W q (h : Bs W q (bytesOf 32 D)) => hex_n q (bytesOf 32 D) 32 32 W (bytesOf_length _ _) h (by rw [bytesOf_length]; decide)
 rw [← hH2] at CH2
 have CT := Lib.hid CT
 have CH1 := Lib.hid CH1
 have CH2 := Lib.hid CH2
 clear hT hH1 hH2 hD hn hb hg hng
 go_enter Tryz.func65, Tryz.ntmps65
 go_wp2_with (go_at_call 103; with_reducible refine (fit_yes r _ (by omega) (by omega)).mono ?_; rintro e w' ⟨rfl, rfl⟩)
 refine (CD.out).mono ?_
 rintro e w1 ⟨rfl, hb1⟩
 clear hconv
 go_wp2_with (with_reducible refine wpList_store_arr rfl 89 (.tmp 8) (.tmp 21) rfl w1.heap.size .u8 32 D rfl rfl 89 _ Arr.new HN ?_)
 have hA : Arr ((w1.alloc (.cells (row .u8 32 fun _ => 0) 89)).setRow w1.heap.size (row .u8 32 D)) w1.heap.size .u8 32 89 D := Arr.new.setRow _
 have hb2 : Below w.heap.size w ((w1.alloc (.cells (row .u8 32 fun _ => 0) 89)).setRow w1.heap.size (row .u8 32 D)) := below_setRow (hb1.alloc hb1.size _) hb1.size _
 generalize World.setRow _ _ _ = w2 at hA hb2 ⊢
 generalize w1.heap.size = g8 at hA ⊢
 have HA := Lib.hid hA
 have hb := hb2
 have CQ1 := Lib.hid (fun d os => Calls.regrown_of (CT.out (grow (redrawn w2 d) os) (HG.out.keep (hb2.trans ((below_regrown w2 d os).mono hb2.size)))))
 have CQ2 := Lib.hid (fun d os => Calls.regrown_of (CH1.out (grow (redrawn w2 d) os) (HB.out.keep (hb2.trans ((below_regrown w2 d os).mono hb2.size)))))
 have CQ3 := Lib.hid (fun d os => Calls.regrown_of (CH2.out (grow (redrawn w2 d) os) _ ((arr_bs HA.out HDL.out).keep (below_regrown w2 d os))))
 clear hA hb1 hb2
 go_simp
 refine wp_region_quiet_below (by kernel_rfl) (by kernel_rfl) ?_
 repeat (any_goals (go_big_quiet_step ((first | (go_at_call 104; with_reducible exact CQ1.out _ _) | (go_at_call 105; with_reducible exact CQ2.out _ _) | (go_at_call 105; with_reducible exact CQ3.out _ _)))))
 refine wpQuiet_nil ?_
 intro _ hw'
 obtain ⟨⟨dq, osq⟩, hw''⟩ := hw'
 subst hw''
 replace hb := hb.trans ((below_regrown _ dq osq).mono hb.size)
 clear CQ1 CQ2 CQ3
 go_wp2_with fail
 go_ret2
 exact ⟨rfl, hb⟩
set_option maxHeartbeats 1000000 in
theorem record_fit (s : ByteArray) (p : Option Addr) (n cap : Nat) (r : Int) (w : World) (h : ¬ (1 ≤ r ∧ r ≤ 64)) :
  Calls Tryz.prog 65 #[.string s, .slice p n cap, .int .i64 r] w fun e w' => e = .returned (.tuple #[.string ⟨#[]⟩, .bool false]) ∧ Below w.heap.size w w' := by
 have H := Lib.hid h
 clear h
 go_enter Tryz.func65, Tryz.ntmps65
 go_wp2_with (go_at_call 103; with_reducible refine (fit_no r _ H.out).mono ?_; rintro e w' ⟨rfl, rfl⟩)
 go_ret2
 exact ⟨rfl, Below.refl _ _⟩
set_option maxHeartbeats 1000000 in
theorem record_salt (s : ByteArray) (p : Option Addr) (n cap : Nat) (r : Int) (w : World) (h : 1 ≤ r ∧ r ≤ 64) (hn : 32 < n) :
  Calls Tryz.prog 65 #[.string s, .slice p n cap, .int .i64 r] w fun e w' => e = .returned (.tuple #[.string ⟨#[]⟩, .bool false]) ∧ Below w.heap.size w w' := by
 have H := Lib.hid h
 clear h
 have d1 : decide (32 < (n : Int)) = true := decide_eq_true (by omega)
 go_enter Tryz.func65, Tryz.ntmps65
 go_wp2_with (go_at_call 103; with_reducible refine (fit_yes r _ H.out.1 H.out.2).mono ?_; rintro e w' ⟨rfl, rfl⟩)
 go_ret2
 exact ⟨rfl, Below.refl _ _⟩
end Go.Proofs.YtpoinibckmbfcaaGreatDoor.MacT
namespace Go.Proofs.YtpoinibckmbfcaaGreatDoor.MacT
open Go.RowKit Kit ShaMath ShaT MacM HexMath HexW NumL NumMath
open Go.Sort (grow)
set_option linter.unusedVariables false
set_option maxRecDepth 100000
structure All (w : World) : Prop where
 t : Tabs w
 n : NumL.Gd w
 m : Mx w
theorem All.keep {w w' : World} (h : All w) (hb : Below w.heap.size w w') : All w' := ⟨h.t.keep hb, h.n.keep hb, h.m.keep hb⟩
set_option maxHeartbeats 1000000 in
theorem check_no (s pw : ByteArray) (w : World) (hz : s.size ≤ 1048576) (hg : All w) (h : recOf s.data.toList = none) :
  Calls Tryz.prog 59 #[.string s, .string pw] w fun e w' => e = .returned (.bool false) ∧ Below w.heap.size w w' := by
 have C := Lib.hid (show Calls Tryz.prog 83 #[.string s] w (ParseB none w) by have := parse_all s w hz hg.m hg.n; rwa [h] at this)
 clear h hg
 go_enter Tryz.func59, Tryz.ntmps59
 go_wp2_with fail
 refine C.out.mono ?_
 rintro e w1 ⟨rfl, hb1⟩
 have HC := Lib.hid (parts_size 0 none none 0 0 0 0)
 have HO := Lib.hid (parts_one 0 none none 0 0 0 0)
 go_wp2_with (with_reducible refine wpList_store_row rfl 98 (.tmp 5) (.tmp 11) rfl w1.heap.size #[.int .i64 0, .slice none 0 0, .slice none 0 0] rfl rfl 98 _ (heap_alloc_last _ _) HC.out rfl HO.out ?_)
 go_ret
 exact ⟨rfl, below_setRow (hb1.alloc hb1.size _) hb1.size _⟩
set_option maxHeartbeats 1000000 in
theorem check_yes (s pw : ByteArray) (r : Int) (salt dd : List UInt8) (w : World) (hz : s.size ≤ 1048576) (hz2 : pw.size ≤ 140737488351232) (hg : All w) (h : recOf s.data.toList = some (r, salt, dd)) :
  Calls Tryz.prog 59 #[.string s, .string pw] w fun e w' => e = .returned (.bool (decide (derL pw.data.toList salt r = dd))) ∧ Below w.heap.size w w' := by
 obtain ⟨hz3, hn3⟩ := zero_of_info info_32
 have HN := Lib.hid hn3
 clear hn3
 have hconv := fun W => Lib.run_convert_string_bytes (P := Tryz.prog) W 9 30 5 pw Tryz.underlying9 Tryz.underlying30 Tryz.underlying5
 have C := Lib.hid (show Calls Tryz.prog 83 #[.string s] w (ParseB (some (r, salt, dd)) w) by have := parse_all s w hz hg.m hg.n; rwa [h] at this)
 have HG := Lib.hid hg.t
 clear h hg
 go_enter Tryz.func59, Tryz.ntmps59
 go_wp2_with fail
 refine C.out.mono ?_
 rintro e w1 ⟨p1, c1, p2, c2, rfl, hbs1, hk1, hk1m, hnil, hbs2, hr0, hr1, hs32, hd32, hb1⟩
 obtain ⟨k, rfl⟩ : ∃ k : Nat, r = (k : Int) := ⟨r.toNat, by omega⟩
 have HC := Lib.hid (parts_size k p1 p2 salt.length c1 32 c2)
 have HO := Lib.hid (parts_one k p1 p2 salt.length c1 32 c2)
 have HS1 := Lib.hid hbs1
 have HS2 := Lib.hid hbs2
 have HD32 := Lib.hid hd32
 obtain ⟨n1, hn1⟩ : ∃ n1, n1 = salt.length := ⟨_, rfl⟩
 have HN1 := Lib.hid hn1.symm
 rw [← hn1] at hs32 hk1 HC HO ⊢
 clear hbs1 hbs2 hd32 hn1 C
 go_upto_region 2 with (with_reducible refine wpList_store_row rfl 98 (.tmp 5) (.tmp 11) rfl w1.heap.size #[.int .i64 (k : Int), .slice p1 n1 c1, .slice p2 32 c2] rfl rfl 98 _ (heap_alloc_last _ _) HC.out rfl HO.out ?_)
 go_simp
 have hT : ((w1.alloc (.cells #[.int .i64 0, .slice none 0 0, .slice none 0 0] 98)).setRow w1.heap.size #[.int .i64 (k : Int), .slice p1 n1 c1, .slice p2 32 c2]).heap[w1.heap.size]? = some (.cells #[.int .i64 (k : Int), .slice p1 n1 c1, .slice p2 32 c2] 98 (0, 0)) := setRow_heap _ _ _ _ _ _ (heap_alloc_last _ _)
 have hb2 : Below w1.heap.size w1 ((w1.alloc (.cells #[.int .i64 0, .slice none 0 0, .slice none 0 0] 98)).setRow w1.heap.size #[.int .i64 (k : Int), .slice p1 n1 c1, .slice p2 32 c2]) := below_setRow (below1 _ _) (Nat.le_refl _) _
 generalize World.setRow _ _ _ = w2 at hT hb2 ⊢
 have hg5 : w1.heap.size < w2.heap.size := by
  rcases Nat.lt_or_ge w1.heap.size w2.heap.size with h' | h'
  · exact h'
  · rw [Array.getElem?_eq_none h'] at hT; cases hT
 have HB2 := Lib.hid (hb1.trans (hb2.mono hb1.size))
 have HS1b := Lib.hid (HS1.out.keep hb2)
 have HS2b := Lib.hid (HS2.out.keep hb2)
 generalize w1.heap.size = g5 at hT hg5 ⊢
 have hbb := bytesWorld_below w2 5 pw
 have x0 : (Lib.bytesWorld w2 5 pw).cell? ⟨g5, 0, none⟩ = some (.int .i64 (k : Int)) := by rw [hbb.cell (p := ⟨g5, 0, none⟩) hg5, cell_of_row w2 g5 0 _ _ _ hT]; rfl
 have x1 : (Lib.bytesWorld w2 5 pw).cell? ⟨g5, 1, none⟩ = some (.slice p1 n1 c1) := by rw [hbb.cell (p := ⟨g5, 1, none⟩) hg5, cell_of_row w2 g5 1 _ _ _ hT]; rfl
 have x2 : w2.cell? ⟨g5, 2, none⟩ = some (.slice p2 32 c2) := by rw [cell_of_row w2 g5 2 _ _ _ hT]; rfl
 have X2 := Lib.hid x2
 have CD := Lib.hid (derive_text pw p1 salt n1 c1 k w2 (by omega) (by omega) hz2 HN1.out HS1b.out (by rw [HN1.out]; omega) (HG.out.keep HB2.out))
 clear hbb x2 hT hb2 hb1 HS1 HS2
 go_wp2_with fail
 refine (CD.out).mono ?_
 rintro e w3 ⟨rfl, hb3⟩
 have x2 := (hb3.cell (p := ⟨g5, 2, none⟩) hg5).trans X2.out
 have HB3 := Lib.hid (HB2.out.trans (hb3.mono HB2.out.size))
 have HS3 := Lib.hid (HS2b.out.keep hb3)
 have hg6 : g5 < w3.heap.size := Nat.lt_of_lt_of_le hg5 hb3.size
 obtain ⟨D, hD⟩ : ∃ D, D = derAt pw.data.toList salt (k : Int) := ⟨_, rfl⟩
 have HDL := Lib.hid (show ∀ j, D j < 256 by rw [hD]; exact derAt_lt _ _ _)
 have HDe := Lib.hid (show derL pw.data.toList salt (k : Int) = bytesOf 32 D by rw [hD]; rfl)
 rw [← hD]
 clear hb3 hconv x0 x1 hD CD X2 HB2 HS1b HS2b
 go_upto_region 5 with (with_reducible refine wpList_store_arr rfl 89 (.tmp 7) (.tmp 21) rfl w3.heap.size .u8 32 D rfl rfl 89 _ Arr.new HN ?_)
 go_simp
 have hA : Arr ((w3.alloc (.cells (row .u8 32 fun _ => 0) 89)).setRow w3.heap.size (row .u8 32 D)) w3.heap.size .u8 32 89 D := Arr.new.setRow _
 have hb4 : Below w3.heap.size w3 ((w3.alloc (.cells (row .u8 32 fun _ => 0) 89)).setRow w3.heap.size (row .u8 32 D)) := below_setRow (below1 _ _) (Nat.le_refl _) _
 generalize World.setRow _ _ _ = w4 at hA hb4 ⊢
 have x2' := (hb4.cell (p := ⟨g5, 2, none⟩) hg6).trans x2
 have hb := HB3.out.trans (hb4.mono HB3.out.size)
 have HS4 := Lib.hid (HS3.out.keep hb4)
 generalize w3.heap.size = g7 at hA ⊢
 have CS := Lib.hid (fun d os => Calls.regrown_of (same_any _ (bytesOf 32 D) 32 32 p2 dd 32 c2 (grow (redrawn w4 d) os) (bytesOf_length _ _) ((arr_bs hA HDL.out).keep (below_regrown w4 d os)) HD32.out (HS4.out.keep (below_regrown w4 d os)) (by decide) (by decide)))
 have e2 := fun d os => cell_regrown x2' d os
 clear hA hb4 x2 x2' HB3 HS3
 refine wp_region_quiet_below (by kernel_rfl) (by kernel_rfl) ?_
 repeat (any_goals (go_big_quiet_step ((go_at_call 96; with_reducible exact CS.out _ _))))
 refine wpQuiet_nil ?_
 intro _ hw'
 obtain ⟨⟨dq, osq⟩, hw''⟩ := hw'
 subst hw''
 replace hb := hb.trans ((below_regrown _ dq osq).mono hb.size)
 clear CS e2
 go_wp2_with fail
 go_ret
 exact ⟨ret_bool (by rw [HDe.out]), hb⟩
theorem check_any (s pw : ByteArray) (w : World) (hz : s.size ≤ 1048576) (hz2 : pw.size ≤ 140737488351232) (hg : All w) :
  Calls Tryz.prog 59 #[.string s, .string pw] w fun e w' => e = .returned (.bool (checkB s.data.toList pw.data.toList)) ∧ Below w.heap.size w w' := by
 rcases h : recOf s.data.toList with _ | ⟨r, salt, d⟩
 · rw [check_none h]
   exact check_no s pw w hz hg h
 · have e : checkB s.data.toList pw.data.toList = decide (derL pw.data.toList salt r = d) := by unfold checkB; rw [h]
   rw [e]
   exact check_yes s pw r salt d w hz hz2 hg h
end Go.Proofs.YtpoinibckmbfcaaGreatDoor.MacT
