/-
  What mac.Right and mac.Check come to.
-/
import Derived.Test.YtjcohlpjlifolaaDoorMacRecord
namespace Go.Proofs.YtjcohlpjlifolaaDoor.MacT
open Go.RowKit Kit ShaMath ShaT MacM HexMath HexW NumL NumMath
open Go.Sort (grow)
set_option linter.unusedVariables false
set_option maxRecDepth 100000

/-- What the walks ask of the world. -/
structure All (w : World) : Prop where
  t : Tabs w
  n : NumL.Gd w
  m : Mx w
theorem All.keep {w w' : World} (h : All w) (hb : Below w.heap.size w w') : All w' := ⟨h.t.keep hb, h.n.keep hb, h.m.keep hb⟩

theorem parse_all (s : ByteArray) (w : World) (hz : s.size ≤ 1048576) (hg : All w) : Calls Tryd.prog 34 #[.string s] w (ParseB (recOf s.data.toList) w) := by
  rcases h : three s.data.toList with _ | ⟨a, b, c⟩
  · rw [recOf_no h]
    exact parse_other s h w hz hg.m
  · rw [recOf_three h]
    exact parse_three s a b c h w hz hg.m hg.n
/-- What is parsed, in one form. -/
def Parts3 (ok : Bool) (w : World) (e : Ending) (w' : World) : Prop :=
  ∃ r p1 n1 c1 p2 n2 c2, e = .returned (.tuple #[.agg #[.int .i64 r, .slice p1 n1 c1, .slice p2 n2 c2], .bool ok]) ∧ Below w.heap.size w w'
theorem parse_right (s : ByteArray) (w : World) (hz : s.size ≤ 1048576) (hg : All w) : Calls Tryd.prog 34 #[.string s] w (Parts3 (rightB s.data.toList) w) := by
  refine (parse_all s w hz hg).mono ?_
  intro e w' h
  unfold rightB
  rcases hr : recOf s.data.toList with _ | ⟨r, salt, d⟩
  · rw [hr] at h
    obtain ⟨he, hb⟩ := h
    exact ⟨_, _, _, _, _, _, _, he, hb⟩
  · rw [hr] at h
    obtain ⟨p1, c1, p2, c2, he, -, -, -, -, -, -, -, -, -, hb⟩ := h
    exact ⟨_, _, _, _, _, _, _, he, hb⟩

theorem parts_size (r : Int) (p1 p2 : Option Addr) (n1 c1 n2 c2 : Nat) : (Tryd.prog.info? 52).map (·.size) = some (#[Value.int .i64 r, .slice p1 n1 c1, .slice p2 n2 c2] : Array Value).size := z3_info
theorem parts_one (r : Int) (p1 p2 : Option Addr) (n1 c1 n2 c2 : Nat) : (#[Value.int .i64 r, .slice p1 n1 c1, .slice p2 n2 c2] : Array Value).all (·.oneCell') = true := by simp [Value.oneCell']

set_option maxHeartbeats 1000000 in
theorem right_any (s : ByteArray) (w : World) (hz : s.size ≤ 1048576) (hg : All w) :
    Calls Tryd.prog 20 #[.string s] w fun e w' => e = .returned (.bool (rightB s.data.toList)) ∧ Below w.heap.size w w' := by
  have C := Lib.hid (parse_right s w hz hg)
  obtain ⟨R, hR⟩ : ∃ R, R = rightB s.data.toList := ⟨_, rfl⟩
  rw [← hR] at C ⊢
  clear hR hg
  go_enter Tryd.func20, Tryd.ntmps20
  go_wp2_with fail
  refine C.out.mono ?_
  rintro e w1 ⟨r, p1, n1, c1, p2, n2, c2, rfl, hb1⟩
  have HC := Lib.hid (parts_size r p1 p2 n1 c1 n2 c2)
  have HO := Lib.hid (parts_one r p1 p2 n1 c1 n2 c2)
  go_wp2_with (with_reducible refine wpList_store_row rfl 52 (.tmp 3) (.tmp 8) rfl w1.heap.size #[.int .i64 r, .slice p1 n1 c1, .slice p2 n2 c2] rfl rfl 52 _ (heap_alloc_last _ _) HC.out rfl HO.out ?_)
  go_ret
  exact ⟨rfl, below_setRow (hb1.alloc hb1.size _) hb1.size _⟩

set_option maxHeartbeats 1000000 in
theorem check_no (s pw : ByteArray) (w : World) (hz : s.size ≤ 1048576) (hg : All w) (h : recOf s.data.toList = none) :
    Calls Tryd.prog 22 #[.string s, .string pw] w fun e w' => e = .returned (.bool false) ∧ Below w.heap.size w w' := by
  have C := Lib.hid (show Calls Tryd.prog 34 #[.string s] w (ParseB none w) by have := parse_all s w hz hg; rwa [h] at this)
  clear h hg
  go_enter Tryd.func22, Tryd.ntmps22
  go_wp2_with fail
  refine C.out.mono ?_
  rintro e w1 ⟨rfl, hb1⟩
  have HC := Lib.hid (parts_size 0 none none 0 0 0 0)
  have HO := Lib.hid (parts_one 0 none none 0 0 0 0)
  go_wp2_with (with_reducible refine wpList_store_row rfl 52 (.tmp 5) (.tmp 11) rfl w1.heap.size #[.int .i64 0, .slice none 0 0, .slice none 0 0] rfl rfl 52 _ (heap_alloc_last _ _) HC.out rfl HO.out ?_)
  go_ret
  exact ⟨rfl, below_setRow (hb1.alloc hb1.size _) hb1.size _⟩

set_option maxHeartbeats 1000000 in
theorem check_yes (s pw : ByteArray) (r : Int) (salt dd : List UInt8) (w : World) (hz : s.size ≤ 1048576) (hz2 : pw.size ≤ 140737488351232) (hg : All w) (h : recOf s.data.toList = some (r, salt, dd)) :
    Calls Tryd.prog 22 #[.string s, .string pw] w fun e w' => e = .returned (.bool (decide (derL pw.data.toList salt r = dd))) ∧ Below w.heap.size w w' := by
  obtain ⟨hz3, hn3⟩ := zero_of_info info_32
  have HN := Lib.hid hn3
  clear hn3
  have hconv := fun W => Lib.run_convert_string_bytes (P := Tryd.prog) W 9 22 5 pw Tryd.underlying9 Tryd.underlying22 Tryd.underlying5
  have C := Lib.hid (show Calls Tryd.prog 34 #[.string s] w (ParseB (some (r, salt, dd)) w) by have := parse_all s w hz hg; rwa [h] at this)
  have HG := Lib.hid hg.t
  clear h hg
  go_enter Tryd.func22, Tryd.ntmps22
  go_wp2_with fail
  refine C.out.mono ?_
  rintro e w1 ⟨p1, c1, p2, c2, rfl, hbs1, hk1, hk1m, hnil, hbs2, hr0, hr1, hs32, hd32, hb1⟩
  obtain ⟨k, rfl⟩ : ∃ k : Nat, r = (k : Int) := ⟨r.toNat, by omega⟩
  have HC := Lib.hid (parts_size k p1 p2 salt.length c1 32 c2)
  have HO := Lib.hid (parts_one k p1 p2 salt.length c1 32 c2)
  have HS1 := Lib.hid hbs1
  have HS2 := Lib.hid hbs2
  have HD32 := Lib.hid hd32
  obtain ⟨n1, hn1⟩ : ∃ n1, n1 = salt.length := ⟨_, rfl⟩
  have HN1 := Lib.hid hn1.symm
  rw [← hn1] at hs32 hk1 HC HO ⊢
  clear hbs1 hbs2 hd32 hn1 C
  go_upto_region 2 with (with_reducible refine wpList_store_row rfl 52 (.tmp 5) (.tmp 11) rfl w1.heap.size #[.int .i64 (k : Int), .slice p1 n1 c1, .slice p2 32 c2] rfl rfl 52 _ (heap_alloc_last _ _) HC.out rfl HO.out ?_)
  go_simp
  have hT : ((w1.alloc (.cells #[.int .i64 0, .slice none 0 0, .slice none 0 0] 52)).setRow w1.heap.size #[.int .i64 (k : Int), .slice p1 n1 c1, .slice p2 32 c2]).heap[w1.heap.size]? = some (.cells #[.int .i64 (k : Int), .slice p1 n1 c1, .slice p2 32 c2] 52 (0, 0)) := setRow_heap _ _ _ _ _ _ (heap_alloc_last _ _)
  have hb2 : Below w1.heap.size w1 ((w1.alloc (.cells #[.int .i64 0, .slice none 0 0, .slice none 0 0] 52)).setRow w1.heap.size #[.int .i64 (k : Int), .slice p1 n1 c1, .slice p2 32 c2]) := below_setRow (below1 _ _) (Nat.le_refl _) _
  generalize World.setRow _ _ _ = w2 at hT hb2 ⊢
  have hg5 : w1.heap.size < w2.heap.size := by
    rcases Nat.lt_or_ge w1.heap.size w2.heap.size with h' | h'
    · exact h'
    · rw [Array.getElem?_eq_none h'] at hT; cases hT
  have HB2 := Lib.hid (hb1.trans (hb2.mono hb1.size))
  have HS1b := Lib.hid (HS1.out.keep hb2)
  have HS2b := Lib.hid (HS2.out.keep hb2)
  generalize w1.heap.size = g5 at hT hg5 ⊢
  have hbb := bytesWorld_below w2 5 pw
  have x0 : (Lib.bytesWorld w2 5 pw).cell? ⟨g5, 0, none⟩ = some (.int .i64 (k : Int)) := by rw [hbb.cell (p := ⟨g5, 0, none⟩) hg5, cell_of_row w2 g5 0 _ _ _ hT]; rfl
  have x1 : (Lib.bytesWorld w2 5 pw).cell? ⟨g5, 1, none⟩ = some (.slice p1 n1 c1) := by rw [hbb.cell (p := ⟨g5, 1, none⟩) hg5, cell_of_row w2 g5 1 _ _ _ hT]; rfl
  have x2 : w2.cell? ⟨g5, 2, none⟩ = some (.slice p2 32 c2) := by rw [cell_of_row w2 g5 2 _ _ _ hT]; rfl
  have X2 := Lib.hid x2
  have CD := Lib.hid (derive_text pw p1 salt n1 c1 k w2 (by omega) (by omega) hz2 HN1.out HS1b.out (by rw [HN1.out]; omega) (HG.out.keep HB2.out))
  clear hbb x2 hT hb2 hb1 HS1 HS2
  go_wp2_with fail
  refine (CD.out).mono ?_
  rintro e w3 ⟨rfl, hb3⟩
  have x2 := (hb3.cell (p := ⟨g5, 2, none⟩) hg5).trans X2.out
  have HB3 := Lib.hid (HB2.out.trans (hb3.mono HB2.out.size))
  have HS3 := Lib.hid (HS2b.out.keep hb3)
  have hg6 : g5 < w3.heap.size := Nat.lt_of_lt_of_le hg5 hb3.size
  obtain ⟨D, hD⟩ : ∃ D, D = derAt pw.data.toList salt (k : Int) := ⟨_, rfl⟩
  have HDL := Lib.hid (show ∀ j, D j < 256 by rw [hD]; exact derAt_lt _ _ _)
  have HDe := Lib.hid (show derL pw.data.toList salt (k : Int) = bytesOf 32 D by rw [hD]; rfl)
  rw [← hD]
  clear hb3 hconv x0 x1 hD CD X2 HB2 HS1b HS2b
  go_upto_region 5 with (with_reducible refine wpList_store_arr rfl 25 (.tmp 7) (.tmp 21) rfl w3.heap.size .u8 32 D rfl rfl 25 _ Arr.new HN ?_)
  go_simp
  have hA : Arr ((w3.alloc (.cells (row .u8 32 fun _ => 0) 25)).setRow w3.heap.size (row .u8 32 D)) w3.heap.size .u8 32 25 D := Arr.new.setRow _
  have hb4 : Below w3.heap.size w3 ((w3.alloc (.cells (row .u8 32 fun _ => 0) 25)).setRow w3.heap.size (row .u8 32 D)) := below_setRow (below1 _ _) (Nat.le_refl _) _
  generalize World.setRow _ _ _ = w4 at hA hb4 ⊢
  have x2' := (hb4.cell (p := ⟨g5, 2, none⟩) hg6).trans x2
  have hb := HB3.out.trans (hb4.mono HB3.out.size)
  have HS4 := Lib.hid (HS3.out.keep hb4)
  generalize w3.heap.size = g7 at hA ⊢
  have CS := Lib.hid (fun d os => Calls.regrown_of (same_any _ (bytesOf 32 D) 32 32 p2 dd 32 c2 (grow (redrawn w4 d) os) (bytesOf_length _ _) ((arr_bs hA HDL.out).keep (below_regrown w4 d os)) HD32.out (HS4.out.keep (below_regrown w4 d os)) (by decide) (by decide)))
  have e2 := fun d os => cell_regrown x2' d os
  clear hA hb4 x2 x2' HB3 HS3
  refine wp_region_quiet_below (by kernel_rfl) (by kernel_rfl) ?_
  repeat (any_goals (go_big_quiet_step ((go_at_call 16; with_reducible exact CS.out _ _))))
  refine wpQuiet_nil ?_
  intro _ hw'
  obtain ⟨⟨dq, osq⟩, hw''⟩ := hw'
  subst hw''
  replace hb := hb.trans ((below_regrown _ dq osq).mono hb.size)
  clear CS e2
  go_wp2_with fail
  go_ret
  exact ⟨ret_bool (by rw [HDe.out]), hb⟩

theorem check_any (s pw : ByteArray) (w : World) (hz : s.size ≤ 1048576) (hz2 : pw.size ≤ 140737488351232) (hg : All w) :
    Calls Tryd.prog 22 #[.string s, .string pw] w fun e w' => e = .returned (.bool (checkB s.data.toList pw.data.toList)) ∧ Below w.heap.size w w' := by
  rcases h : recOf s.data.toList with _ | ⟨r, salt, d⟩
  · rw [check_none h]
    exact check_no s pw w hz hg h
  · have e : checkB s.data.toList pw.data.toList = decide (derL pw.data.toList salt r = d) := by unfold checkB; rw [h]
    rw [e]
    exact check_yes s pw r salt d w hz hz2 hg h

end Go.Proofs.YtjcohlpjlifolaaDoor.MacT
