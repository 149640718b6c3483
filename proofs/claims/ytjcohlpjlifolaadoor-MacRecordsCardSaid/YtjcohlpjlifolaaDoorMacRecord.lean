/-
  What mac.Record comes to.
-/
import Derived.Test.YtjcohlpjlifolaaDoorMacDerive
import Derived.Test.YtjcohlpjlifolaaDoorMacParse
import Derived.Lib.QuietBelow
namespace Go.Proofs.YtjcohlpjlifolaaDoor.MacT
open Go.RowKit Kit ShaMath ShaT MacM HexMath HexW NumL NumMath
open Go.Sort (grow)
set_option linter.unusedVariables false
set_option maxRecDepth 100000

theorem ret_sb {a a' : ByteArray} {b b' : Bool} (h : a = a') (h' : b = b') : Ending.returned (.tuple #[.string a, .bool b]) = .returned (.tuple #[.string a', .bool b']) := by rw [h, h']
theorem bytes_bs (w : World) (s : ByteArray) : Bs (Lib.bytesWorld w 5 s) (some ⟨w.heap.size, 0, none⟩) s.data.toList := by
  intro h0
  refine ⟨_, 0, rfl, by rw [Lib.bytesWorld_size]; omega, fun j hj => ?_⟩
  rw [Nat.zero_add]
  exact (bytesWorld_row w 5 s).at_ j hj
theorem hex_n (p : Option Addr) (l : List UInt8) (n cap : Nat) (w : World) (hn : l.length = n) (hb : Bs w p l) (hl : l.length ≤ 70368744176640) :
    Calls Tryd.prog 23 #[.slice p n cap] w fun e w' => e = .returned (.string ⟨(hexL l).toArray⟩) ∧ Below w.heap.size w w' := by
  subst hn
  exact hex_any p l cap w hb hl
/-- Derive of a text's bytes. -/
theorem derive_text (s : ByteArray) (q : Option Addr) (salt : List UInt8) (m cap2 : Nat) (r : Nat) (w : World) (h0 : 1 ≤ r) (h1 : r ≤ 64) (hz : s.size ≤ 140737488351232)
    (hm : salt.length = m) (hbs : Bs w q salt) (hl : salt.length ≤ 70368744160000) (hg : Tabs w) :
    Calls Tryd.prog 14 #[.slice (some ⟨w.heap.size, 0, none⟩) s.size (grownCap w s.size 0 5), .slice q m cap2, .int .i64 (r : Int)] (Lib.bytesWorld w 5 s) fun e w' => e = .returned (.agg (row .u8 32 (derAt s.data.toList salt r))) ∧ Below w.heap.size w w' := by
  have hb := bytesWorld_below w 5 s
  have hs : s.data.toList.length = s.size := by simp
  have hc1 := grownCap_ge w s.size 0 5
  have hc2 := grownCap_le_maxLen w s.size 0 5 (by unfold maxLen; omega)
  unfold maxLen at hc2
  refine (derive_in _ s.data.toList s.size _ q salt m cap2 r _ h0 h1 hs (bytes_bs w s) (by omega) (by omega) (by omega) hm (hbs.keep hb) hl (hg.keep hb)).mono ?_
  rintro e w' ⟨he, hb2⟩
  exact ⟨he, hb.trans (hb2.mono hb.size)⟩

theorem rec_bytes {T H1 H2 : ByteArray} {r : Int} {salt d : List UInt8} (ht : T = ⟨(Lib.itoa r).toArray⟩) (h1 : H1 = ⟨(hexL salt).toArray⟩) (h2 : H2 = ⟨(hexL d).toArray⟩) : T ++ ⟨#[58]⟩ ++ H1 ++ ⟨#[58]⟩ ++ H2 = ⟨(recL r salt d).toArray⟩ := by
  subst ht h1 h2
  apply ByteArray.ext
  apply Array.toList_inj.1
  unfold recL
  simp

set_option maxHeartbeats 1000000 in
theorem record_yes (s : ByteArray) (p : Option Addr) (l : List UInt8) (n cap r : Nat) (w : World) (h0 : 1 ≤ r) (h1 : r ≤ 64) (hz : s.size ≤ 140737488351232) (hn : l.length = n) (hb : Bs w p l) (hl : n ≤ 32) (hg : Tabs w) (hng : NumL.Gd w) :
    Calls Tryd.prog 18 #[.string s, .slice p n cap, .int .i64 (r : Int)] w fun e w' => e = .returned (.tuple #[.string ⟨(recL r l (derL s.data.toList l r)).toArray⟩, .bool true]) ∧ Below w.heap.size w w' := by
  obtain ⟨hz3, hn3⟩ := zero_of_info info_32
  have HN := Lib.hid hn3
  clear hn3
  have hconv := fun W => Lib.run_convert_string_bytes (P := Tryd.prog) W 9 22 5 s Tryd.underlying9 Tryd.underlying22 Tryd.underlying5
  have CD := Lib.hid (derive_text s p l n cap r w h0 h1 hz hn hb (by omega) hg)
  have HLn := Lib.hid hn
  have HB := Lib.hid hb
  have HG := Lib.hid hng
  have d1 : decide (32 < (n : Int)) = false := decide_eq_false (by omega)
  obtain ⟨D, hD⟩ : ∃ D, D = derAt s.data.toList l r := ⟨_, rfl⟩
  have HDL := Lib.hid (show ∀ j, D j < 256 by rw [hD]; exact derAt_lt _ _ _)
  have HDe := Lib.hid (show derL s.data.toList l r = bytesOf 32 D by rw [hD]; rfl)
  rw [HDe.out]
  rw [← hD] at CD
  obtain ⟨T, hT⟩ : ∃ T : ByteArray, T = ⟨(Lib.itoa (r : Int)).toArray⟩ := ⟨_, rfl⟩
  obtain ⟨H1, hH1⟩ : ∃ H1 : ByteArray, H1 = ⟨(hexL l).toArray⟩ := ⟨_, rfl⟩
  obtain ⟨H2, hH2⟩ : ∃ H2 : ByteArray, H2 = ⟨(hexL (bytesOf 32 D)).toArray⟩ := ⟨_, rfl⟩
  have ht2 : T.size ≤ 2 := by rw [hT, size_bytes]; exact itoa_small r (by omega)
  have hs1 : H1.size ≤ 64 := by rw [hH1, size_bytes, hexL_length]; omega
  have hs2 : H2.size ≤ 64 := by rw [hH2, size_bytes, hexL_length, bytesOf_length]; omega
  have HE := Lib.hid (rec_bytes hT hH1 hH2)
  rw [← HE.out]
  have CT := fun W (h : NumL.Gd W) => text_any (r : Int) (by omega) (by omega) W h
  rw [← hT] at CT
  have CH1 := fun W (h : Bs W p l) => hex_n p l n cap W hn h (by omega)
  rw [← hH1] at CH1
  have CH2 := fun W q (h : Bs W q (bytesOf 32 D)) => hex_n q (bytesOf 32 D) 32 32 W (bytesOf_length _ _) h (by rw [bytesOf_length]; decide)
  rw [← hH2] at CH2
  have CT := Lib.hid CT
  have CH1 := Lib.hid CH1
  have CH2 := Lib.hid CH2
  clear hT hH1 hH2 hD hn hb hg hng
  go_enter Tryd.func18, Tryd.ntmps18
  go_wp2_with (go_at_call 29; with_reducible refine (fit_yes r _ (by omega) (by omega)).mono ?_; rintro e w' ⟨rfl, rfl⟩)
  refine (CD.out).mono ?_
  rintro e w1 ⟨rfl, hb1⟩
  clear hconv
  go_wp2_with (with_reducible refine wpList_store_arr rfl 25 (.tmp 8) (.tmp 21) rfl w1.heap.size .u8 32 D rfl rfl 25 _ Arr.new HN ?_)
  have hA : Arr ((w1.alloc (.cells (row .u8 32 fun _ => 0) 25)).setRow w1.heap.size (row .u8 32 D)) w1.heap.size .u8 32 25 D := Arr.new.setRow _
  have hb2 : Below w.heap.size w ((w1.alloc (.cells (row .u8 32 fun _ => 0) 25)).setRow w1.heap.size (row .u8 32 D)) := below_setRow (hb1.alloc hb1.size _) hb1.size _
  generalize World.setRow _ _ _ = w2 at hA hb2 ⊢
  generalize w1.heap.size = g8 at hA ⊢
  have HA := Lib.hid hA
  have hb := hb2
  have CQ1 := Lib.hid (fun d os => Calls.regrown_of (CT.out (grow (redrawn w2 d) os) (HG.out.keep (hb2.trans ((below_regrown w2 d os).mono hb2.size)))))
  have CQ2 := Lib.hid (fun d os => Calls.regrown_of (CH1.out (grow (redrawn w2 d) os) (HB.out.keep (hb2.trans ((below_regrown w2 d os).mono hb2.size)))))
  have CQ3 := Lib.hid (fun d os => Calls.regrown_of (CH2.out (grow (redrawn w2 d) os) _ ((arr_bs HA.out HDL.out).keep (below_regrown w2 d os))))
  clear hA hb1 hb2
  go_simp
  refine wp_region_quiet_below (by kernel_rfl) (by kernel_rfl) ?_
  repeat (any_goals (go_big_quiet_step ((first | (go_at_call 31; with_reducible exact CQ1.out _ _) | (go_at_call 23; with_reducible exact CQ2.out _ _) | (go_at_call 23; with_reducible exact CQ3.out _ _)))))
  refine wpQuiet_nil ?_
  intro _ hw'
  obtain ⟨⟨dq, osq⟩, hw''⟩ := hw'
  subst hw''
  replace hb := hb.trans ((below_regrown _ dq osq).mono hb.size)
  clear CQ1 CQ2 CQ3
  go_wp2_with fail
  go_ret2
  exact ⟨rfl, hb⟩

set_option maxHeartbeats 1000000 in
theorem record_fit (s : ByteArray) (p : Option Addr) (n cap : Nat) (r : Int) (w : World) (h : ¬ (1 ≤ r ∧ r ≤ 64)) :
    Calls Tryd.prog 18 #[.string s, .slice p n cap, .int .i64 r] w fun e w' => e = .returned (.tuple #[.string ⟨#[]⟩, .bool false]) ∧ Below w.heap.size w w' := by
  have H := Lib.hid h
  clear h
  go_enter Tryd.func18, Tryd.ntmps18
  go_wp2_with (go_at_call 29; with_reducible refine (fit_no r _ H.out).mono ?_; rintro e w' ⟨rfl, rfl⟩)
  go_ret2
  exact ⟨rfl, Below.refl _ _⟩
set_option maxHeartbeats 1000000 in
theorem record_salt (s : ByteArray) (p : Option Addr) (n cap : Nat) (r : Int) (w : World) (h : 1 ≤ r ∧ r ≤ 64) (hn : 32 < n) :
    Calls Tryd.prog 18 #[.string s, .slice p n cap, .int .i64 r] w fun e w' => e = .returned (.tuple #[.string ⟨#[]⟩, .bool false]) ∧ Below w.heap.size w w' := by
  have H := Lib.hid h
  clear h
  have d1 : decide (32 < (n : Int)) = true := decide_eq_true (by omega)
  go_enter Tryd.func18, Tryd.ntmps18
  go_wp2_with (go_at_call 29; with_reducible refine (fit_yes r _ H.out.1 H.out.2).mono ?_; rintro e w' ⟨rfl, rfl⟩)
  go_ret2
  exact ⟨rfl, Below.refl _ _⟩

end Go.Proofs.YtjcohlpjlifolaaDoor.MacT
