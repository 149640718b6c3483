/-
  'tipstafflaw03.MacChecks': for all pairs of passwords, salts and pairs of numbers it answers true.
-/
import Derived.Test.YtjcohlpjlifolaaDoorMacTexts
import Derived.Deep.DeepCutAuto
namespace Go.Proofs.YtjcohlpjlifolaaDoor.macChecks
open Go.RowKit Kit ShaMath ShaT MacM MacT HexMath NumMath
open Go.Sort (grow)
set_option linter.unusedVariables false
set_option maxRecDepth 100000
-- ASKS: ShaT.Tabs NumL.Gd MacT.Mx
-- NIL

theorem row8_keep {w w' : World} {b : Nat} {l : List UInt8} (h : Row8 w b l) (hlt : b < w.heap.size) (hb : Below w.heap.size w w') : Row8 w' b l := fun j hj =>
  ⟨by rw [hb.cell (p := ⟨b, j, none⟩) hlt]; exact (h j hj).1, by rw [hb.frozen (p := ⟨b, j, none⟩) hlt]; exact (h j hj).2⟩
/-- What lies in memory: both derived rows, the text's bytes. -/
structure CRel (w : World) (g13 g14 gB : Nat) (A B : Nat → Nat) (M : List UInt8) (wr : World) : Prop where
  b : Below w.heap.size w wr
  a : Arr wr g13 .u8 32 25 A
  a2 : Arr wr g14 .u8 32 25 B
  m : Row8 wr gB M
  lt : gB < wr.heap.size
theorem CRel.keep {w : World} {g13 g14 gB : Nat} {A B : Nat → Nat} {M : List UInt8} {wr w' : World} (h : CRel w g13 g14 gB A B M wr) (hb : Below wr.heap.size wr w') : CRel w g13 g14 gB A B M w' :=
  ⟨h.b.trans (hb.mono h.b.size), h.a.keep hb h.a.lt, h.a2.keep hb h.a2.lt, row8_keep h.m h.lt hb, Nat.lt_of_lt_of_le h.lt hb.size⟩
theorem CRel.set {w : World} {g13 g14 gB : Nat} {A B : Nat → Nat} {M : List UInt8} {wr : World} (h : CRel w g13 g14 gB A B M wr) (hw : w.heap.size ≤ gB) (h1 : g13 ≠ gB) (h2 : g14 ≠ gB) (k : Nat) (hk : k < M.length) (c : UInt8) : CRel w g13 g14 gB A B (M.set k c) (wr.setCell ⟨gB, k, none⟩ (.int .u8 (c.toNat : Int))) :=
  ⟨h.b.setCell hw _, h.a.other _ _ h1, h.a2.other _ _ h2, h.m.set k hk c, by simp; exact h.lt⟩

set_option maxHeartbeats 4000000 in
theorem walk (a b : ByteArray) (p : Option Addr) (l : List UInt8) (cap : Nat) (x y : Int) (w : World) (hza : a.size ≤ 140737488351232) (hzb : b.size ≤ 140737488351232) (hb : Bs w p l) (hl : l.length ≤ 140737488351232) (hlc : l.length ≤ cap) (hc : cap ≤ 9223372036854775807) (hnil : p = none → cap = 0)
    (x0 : 0 ≤ x) (x1 : x ≤ 255) (y0 : 0 ≤ y) (y1 : y ≤ 255) (hg1 : Tabs w) (hg2 : NumL.Gd w) (hg3 : Mx w) :
    Calls Tryd.prog 5 #[.agg #[.string a, .string b], .slice p l.length cap, .agg #[.int .u8 x, .int .u8 y]] w fun e w' => e = .returned (.bool true) ∧ Below w.heap.size w w' := by
  have HG := Lib.hid (All.mk hg1 hg2 hg3)
  have HB := Lib.hid hb
  obtain ⟨hz3, hn3⟩ := zero_of_info info_32
  have HN := Lib.hid hn3
  clear hg1 hg2 hg3 hb hn3
  go_enter Tryd.func5, Tryd.ntmps5
  have hconva := fun W => Lib.run_convert_string_bytes (P := Tryd.prog) W 9 22 5 a Tryd.underlying9 Tryd.underlying22 Tryd.underlying5
  have hconvb := fun W => Lib.run_convert_string_bytes (P := Tryd.prog) W 9 22 5 b Tryd.underlying9 Tryd.underlying22 Tryd.underlying5
  go_wp2_with fail
  have hb0 := below2 w (.cells #[.string a, .string b] 37) (.cells #[.int .u8 x, .int .u8 y] 38)
  have k0 := Lib.hid (show ((w.alloc (.cells #[.string a, .string b] 37)).alloc (.cells #[.int .u8 x, .int .u8 y] 38)).heap[w.heap.size]? = some (.cells #[.string a, .string b] 37 (0, 0)) from heap_alloc2_old _ _ _)
  have k1 := Lib.hid (show ((w.alloc (.cells #[.string a, .string b] 37)).alloc (.cells #[.int .u8 x, .int .u8 y] 38)).heap[w.heap.size + 1]? = some (.cells #[.int .u8 x, .int .u8 y] 38 (0, 0)) from heap_alloc2_new _ _ _)
  refine (shown_any _ (HG.out.keep hb0)).mono ?_
  rintro e w1 ⟨rfl, hb1⟩
  have HB1 := Lib.hid (hb0.trans (hb1.mono hb0.size))
  have hlt1 : w.heap.size + 1 < w1.heap.size := by have := hb1.size; simp at this; omega
  have K0 := Lib.hid (show w1.heap[w.heap.size]? = some (.cells #[.string a, .string b] 37 (0, 0)) by rw [hb1.block w.heap.size (by simp; omega)]; exact k0.out)
  have K1 := Lib.hid (show w1.heap[w.heap.size + 1]? = some (.cells #[.int .u8 x, .int .u8 y] 38 (0, 0)) by rw [hb1.block (w.heap.size + 1) (by simp)]; exact k1.out)
  clear hb1 k0 k1 hb0
  have ca : w1.cell? ⟨w.heap.size, 0, none⟩ = some (.string a) := by rw [cell_of_row w1 w.heap.size 0 _ _ _ K0.out]; rfl
  have HBBa := Lib.hid (bytesWorld_below w1 5 a)
  have HFa := Lib.hid (few_any (some ⟨w1.heap.size, 0, none⟩) a.data.toList a.size (grownCap w1 a.size 0 5) (Lib.bytesWorld w1 5 a) (by simp) (bytes_bs w1 a) (grownCap_ge _ _ _ _) (by have := grownCap_le_maxLen w1 a.size 0 5 (by unfold maxLen; omega); unfold maxLen at this; omega))
  have hbacka := bs_string ((bytes_bs w1 a).take 40) (grownCap w1 a.size 0 5)
  obtain ⟨PL, hPL⟩ : ∃ PL, PL = a.data.toList.take 40 := ⟨_, rfl⟩
  have hlPL : PL.length ≤ 40 := by rw [hPL, List.length_take]; omega
  rw [← hPL] at hbacka HFa
  obtain ⟨P, hP⟩ : ∃ P : ByteArray, P = ⟨PL.toArray⟩ := ⟨_, rfl⟩
  rw [← hP] at hbacka
  have hzP : P.size ≤ 40 := by rw [hP, size_bytes]; exact hlPL
  clear hP hPL
  go_wp2_with fail
  refine HFa.out.mono ?_
  rintro e w' ⟨rfl, rfl⟩
  have HB2 := Lib.hid (HB1.out.trans (HBBa.out.mono HB1.out.size))
  have K02 := Lib.hid ((HBBa.out.block w.heap.size (by omega)).trans K0.out)
  have K12 := Lib.hid ((HBBa.out.block (w.heap.size + 1) (by omega)).trans K1.out)
  have hlt2 := Nat.lt_of_lt_of_le hlt1 HBBa.out.size
  clear HBBa HFa HB1 K0 K1 hlt1 ca hconva
  generalize Lib.bytesWorld w1 5 a = w2 at HB2 K02 K12 hlt2 hbacka ⊢
  have cb : w2.cell? ⟨w.heap.size, 1, none⟩ = some (.string b) := by rw [cell_of_row w2 w.heap.size 1 _ _ _ K02.out]; rfl
  have HBBb := Lib.hid (bytesWorld_below w2 5 b)
  have HFb := Lib.hid (few_any (some ⟨w2.heap.size, 0, none⟩) b.data.toList b.size (grownCap w2 b.size 0 5) (Lib.bytesWorld w2 5 b) (by simp) (bytes_bs w2 b) (grownCap_ge _ _ _ _) (by have := grownCap_le_maxLen w2 b.size 0 5 (by unfold maxLen; omega); unfold maxLen at this; omega))
  have hbackb := bs_string ((bytes_bs w2 b).take 40) (grownCap w2 b.size 0 5)
  obtain ⟨QL, hQL⟩ : ∃ QL, QL = b.data.toList.take 40 := ⟨_, rfl⟩
  have hlQL : QL.length ≤ 40 := by rw [hQL, List.length_take]; omega
  rw [← hQL] at hbackb HFb
  obtain ⟨Q, hQ⟩ : ∃ Q : ByteArray, Q = ⟨QL.toArray⟩ := ⟨_, rfl⟩
  rw [← hQ] at hbackb
  have hzQ : Q.size ≤ 40 := by rw [hQ, size_bytes]; exact hlQL
  clear hQ hQL
  go_wp2_with fail
  refine HFb.out.mono ?_
  rintro e w' ⟨rfl, rfl⟩
  have HB3 := Lib.hid (HB2.out.trans (HBBb.out.mono HB2.out.size))
  have K13 := Lib.hid ((HBBb.out.block (w.heap.size + 1) hlt2).trans K12.out)
  have hlt3 := Nat.lt_of_lt_of_le hlt2 HBBb.out.size
  clear HBBb HFb HB2 K02 K12 hlt2 cb hconvb hbacka
  generalize Lib.bytesWorld w2 5 b = w3 at HB3 K13 hlt3 hbackb ⊢
  have HS3 := Lib.hid ((HB.out.take 32).keep HB3.out)
  have hs32 : (l.take 32).length ≤ 32 := by rw [List.length_take]; omega
  have hsc : (l.take 32).length ≤ cap := by rw [List.length_take]; omega
  have hsv : (32 < l.length → (l.take 32).length = 32) ∧ (¬ 32 < l.length → (l.take 32).length = l.length) := by rw [List.length_take]; omega
  obtain ⟨S, hS⟩ : ∃ S, S = l.take 32 := ⟨_, rfl⟩
  rw [← hS] at HS3 hs32 hsc hsv
  clear hS
  go_upto_if 30 with fail
  go_cut [1] (fun v wx => v = .slice p S.length cap ∧ w3 = wx)
  case first =>
    by_cases h32 : 32 < l.length
    · have hv := Lib.hid (hsv.1 h32)
      obtain ⟨b', off, rfl, -, -⟩ := HB.out (by omega)
      clear hsv
      go_wp2_with fail
      go_meet
      exact ⟨by rw [hv.out], rfl⟩
    · have hv := Lib.hid (hsv.2 h32)
      clear hsv
      go_wp2_with fail
      go_meet
      exact ⟨by rw [hv.out], rfl⟩
  case rest =>
    obtain ⟨rfl, rfl⟩ := hcut
    clear hbackb hsv HB
    obtain ⟨r, hr⟩ : ∃ r : Nat, 1 + x % 3 = (r : Int) := ⟨(1 + x % 3).toNat, by omega⟩
    have hr1 : 1 ≤ r := by omega
    have hr3 : r ≤ 3 := by omega
    have cx : w3.cell? ⟨w.heap.size + 1, 0, none⟩ = some (.int .u8 x) := by rw [cell_of_row w3 (w.heap.size + 1) 0 _ _ _ K13.out]; rfl
    obtain ⟨A, hA⟩ : ∃ A, A = derAt P.data.toList S (r : Int) := ⟨_, rfl⟩
    obtain ⟨B, hB⟩ : ∃ B, B = derAt Q.data.toList S (r : Int) := ⟨_, rfl⟩
    have HAL := Lib.hid (show ∀ j, A j < 256 by rw [hA]; exact derAt_lt _ _ _)
    have HBL := Lib.hid (show ∀ j, B j < 256 by rw [hB]; exact derAt_lt _ _ _)
    obtain ⟨d, hd⟩ : ∃ d, d = bytesOf 32 A := ⟨_, rfl⟩
    have hdl : d.length = 32 := by rw [hd]; exact bytesOf_length _ _
    have HDP := Lib.hid (show derL P.data.toList S (r : Int) = d by rw [hd, hA]; rfl)
    have HDQ := Lib.hid (show derL Q.data.toList S (r : Int) = bytesOf 32 B by rw [hB]; rfl)
    have HdA := Lib.hid hd
    obtain ⟨R, hR⟩ : ∃ R : ByteArray, R = ⟨(recL (r : Int) S d).toArray⟩ := ⟨_, rfl⟩
    have hRl : R.data.toList = recL (r : Int) S d := by rw [hR]
    have HRL := Lib.hid hRl
    have CR := Lib.hid (show Calls Tryd.prog 18 #[.string P, .slice p S.length cap, .int .i64 (r : Int)] w3 (fun e w' => e = .returned (.tuple #[.string R, .bool true]) ∧ Below w3.heap.size w3 w') by rw [hR, ← HDP.out]; exact record_yes P p S S.length cap r w3 hr1 (by omega) (by omega) rfl HS3.out hs32 (HG.out.t.keep HB3.out) (HG.out.n.keep HB3.out))
    have hRz : R.size = 2 * S.length + 67 := by
      have : R.data.toList.length = 2 * S.length + 67 := by
        rw [hRl, recL_length (r : Int) S d (by rw [itoa_digit r hr1 hr3]; rfl) hdl]
      simpa using this
    have hRz1 : 67 ≤ R.size := by omega
    have hRz2 : R.size ≤ 131 := by omega
    have HRZ := Lib.hid hRz
    have HDL := Lib.hid hdl
    have dz : decide ((R.size : Int) < 64) = false := decide_eq_false (by omega)
    have hconvp := fun W => Lib.run_convert_string_bytes (P := Tryd.prog) W 9 22 5 P Tryd.underlying9 Tryd.underlying22 Tryd.underlying5
    have hconvq := fun W => Lib.run_convert_string_bytes (P := Tryd.prog) W 9 22 5 Q Tryd.underlying9 Tryd.underlying22 Tryd.underlying5
    have hconvr := fun W => Lib.run_convert_string_bytes (P := Tryd.prog) W 9 22 5 R Tryd.underlying9 Tryd.underlying22 Tryd.underlying5
    clear hd hR hRl hRz hdl
    go_wp2_with fail
    refine CR.out.mono ?_
    rintro e w4 ⟨rfl, hb4⟩
    have HB4 := Lib.hid (HB3.out.trans (hb4.mono HB3.out.size))
    have HS4 := Lib.hid (HS3.out.keep hb4)
    have HW4 := Lib.hid hb4
    have CD := Lib.hid (show Calls Tryd.prog 14 #[.slice (some ⟨w4.heap.size, 0, none⟩) P.size (grownCap w4 P.size 0 5), .slice p S.length cap, .int .i64 (r : Int)] (Lib.bytesWorld w4 5 P) (fun e w' => e = .returned (.agg (row .u8 32 A)) ∧ Below w4.heap.size w4 w') by rw [hA]; exact derive_text P p S S.length cap r w4 hr1 (by omega) (by omega) rfl HS4.out (by omega) (HG.out.t.keep HB4.out))
    clear hb4 HB3 HS3 CR hA hr cx
    go_wp2_with fail
    refine CD.out.mono ?_
    rintro e w5 ⟨rfl, hb5⟩
    have HB5 := Lib.hid (HB4.out.trans (hb5.mono HB4.out.size))
    have HS5 := Lib.hid (HS4.out.keep hb5)
    have HW5 := Lib.hid (HW4.out.trans (hb5.mono HW4.out.size))
    clear hb5 HB4 HS4 HW4 CD hconvp
    go_upto_region 11 with (with_reducible refine wpList_store_arr rfl 25 (.tmp 13) (.tmp 60) rfl w5.heap.size .u8 32 A rfl rfl 25 _ Arr.new HN ?_)
    go_simp
    have hb6 : Below w5.heap.size w5 ((w5.alloc (.cells (row .u8 32 fun _ => 0) 25)).setRow w5.heap.size (row .u8 32 A)) := below_setRow (below1 _ _) (Nat.le_refl _) _
    have hA13 : Arr ((w5.alloc (.cells (row .u8 32 fun _ => 0) 25)).setRow w5.heap.size (row .u8 32 A)) w5.heap.size .u8 32 25 A := Arr.new.setRow _
    generalize World.setRow _ _ _ = w6 at hb6 hA13 ⊢
    have HB6 := Lib.hid (HB5.out.trans (hb6.mono HB5.out.size))
    have HS6 := Lib.hid (HS5.out.keep hb6)
    have HW6 := Lib.hid (HW5.out.trans (hb6.mono HW5.out.size))
    generalize w5.heap.size = g13 at hA13 ⊢
    have HA6 := Lib.hid hA13
    have CD := Lib.hid (show Calls Tryd.prog 14 #[.slice (some ⟨w6.heap.size, 0, none⟩) Q.size (grownCap w6 Q.size 0 5), .slice p S.length cap, .int .i64 (r : Int)] (Lib.bytesWorld w6 5 Q) (fun e w' => e = .returned (.agg (row .u8 32 B)) ∧ Below w6.heap.size w6 w') by rw [hB]; exact derive_text Q p S S.length cap r w6 hr1 (by omega) (by omega) rfl HS6.out (by omega) (HG.out.t.keep HB6.out))
    clear hb6 hA13 HB5 HS5 HW5 hB
    go_wp2_with fail
    refine CD.out.mono ?_
    rintro e w7 ⟨rfl, hb7⟩
    have HB7 := Lib.hid (HB6.out.trans (hb7.mono HB6.out.size))
    have HW7 := Lib.hid (HW6.out.trans (hb7.mono HW6.out.size))
    have HA7 := Lib.hid (HA6.out.keep hb7 HA6.out.lt)
    clear hb7 HB6 HS6 HW6 HA6 CD hconvq
    go_upto_region 12 with (with_reducible refine wpList_store_arr rfl 25 (.tmp 14) (.tmp 65) rfl w7.heap.size .u8 32 B rfl rfl 25 _ Arr.new HN ?_)
    go_simp
    have hb8 : Below w7.heap.size w7 ((w7.alloc (.cells (row .u8 32 fun _ => 0) 25)).setRow w7.heap.size (row .u8 32 B)) := below_setRow (below1 _ _) (Nat.le_refl _) _
    have hA14 : Arr ((w7.alloc (.cells (row .u8 32 fun _ => 0) 25)).setRow w7.heap.size (row .u8 32 B)) w7.heap.size .u8 32 25 B := Arr.new.setRow _
    generalize World.setRow _ _ _ = w8 at hb8 hA14 ⊢
    have HB8 := Lib.hid (HB7.out.trans (hb8.mono HB7.out.size))
    have HW8 := Lib.hid (HW7.out.trans (hb8.mono HW7.out.size))
    have HA8 := Lib.hid (HA7.out.keep hb8 HA7.out.lt)
    generalize w7.heap.size = g14 at hA14 ⊢
    have HE8 := Lib.hid hA14
    clear hb8 hA14 HB7 HW7 HA7
    go_upto_region 13 with fail
    have hbw := bytesWorld_below w8 5 R
    have hrow := bytesWorld_row w8 5 R
    have hcapr := grownCap_ge w8 R.size 0 5
    have hsz9 : w8.heap.size < (Lib.bytesWorld w8 5 R).heap.size := by rw [Lib.bytesWorld_size]; omega
    have hg13 : g13 ≠ w8.heap.size := Nat.ne_of_lt HA8.out.lt
    have hg14 : g14 ≠ w8.heap.size := Nat.ne_of_lt HE8.out.lt
    have HR9 := Lib.hid (show CRel w g13 g14 w8.heap.size A B R.data.toList (Lib.bytesWorld w8 5 R) from ⟨HB8.out.trans (hbw.mono HB8.out.size), HA8.out.keep hbw HA8.out.lt, HE8.out.keep hbw HE8.out.lt, hrow, hsz9⟩)
    have cy : (Lib.bytesWorld w8 5 R).cell? ⟨w.heap.size + 1, 1, none⟩ = some (.int .u8 y) := by
      rw [cell_of_row _ (w.heap.size + 1) 1 _ _ _ ((hbw.block _ (Nat.lt_of_lt_of_le hlt3 HW8.out.size)).trans ((HW8.out.block _ hlt3).trans K13.out))]
      rfl
    have hgB : w.heap.size ≤ w8.heap.size := HB8.out.size
    generalize grownCap w8 R.size 0 5 = capr at hcapr ⊢
    generalize Lib.bytesWorld w8 5 R = w9 at HR9 cy ⊢
    generalize w8.heap.size = gB at HR9 hg13 hg14 hgB ⊢
    clear hbw hrow hsz9 HB8 HW8 HA8 HE8 hconvr K13 hlt3
    obtain ⟨k, hk⟩ : ∃ k : Nat, (R.size : Int) - 1 - y % 64 = (k : Int) := ⟨((R.size : Int) - 1 - y % 64).toNat, by omega⟩
    have hk1 : R.size - 64 ≤ k := by omega
    have hk2 : k < R.size := by omega
    have hLl : R.data.toList.length = R.size := by simp
    have hk3 : k < R.data.toList.length := by omega
    have c0 := HR9.out.m.at_ k hk3
    have z0 := HR9.out.m.frz k hk3
    obtain ⟨ch, hch⟩ : ∃ ch, ch = R.data.toList[k] := ⟨_, rfl⟩
    rw [← hch] at c0
    have HCH := Lib.hid (show ∃ h : k < R.data.toList.length, ch = R.data.toList[k] from ⟨hk3, hch⟩)
    have HLl := Lib.hid hLl
    have HSET := Lib.hid (fun (c : UInt8) => HR9.out.set hgB hg13 hg14 k hk3 c)
    have h256 := UInt8.toNat_lt ch
    clear hch hLl
    go_upto_if 80 with fail
    go_cut [] (fun wx => ∃ c : UInt8, (digV c).isSome = true ∧ ch ≠ c ∧ CRel w g13 g14 gB A B (R.data.toList.set k c) wx)
    case first =>
      have H49 := Lib.hid (show CRel w g13 g14 gB A B (R.data.toList.set k 49) (w9.setCell ⟨gB, k, none⟩ (.int .u8 49)) from HSET.out 49)
      have H48 := Lib.hid (show CRel w g13 g14 gB A B (R.data.toList.set k 48) (w9.setCell ⟨gB, k, none⟩ (.int .u8 48)) from HSET.out 48)
      by_cases h48 : ch.toNat = 48
      · have q48 : ((ch.toNat : Int) == 48) = true := by simp; omega
        have HNE := Lib.hid (show ch ≠ 49 from fun e => by rw [e] at h48; cases h48)
        clear h48
        go_wp2_with fail
        go_meet
        exact ⟨49, by decide, HNE.out, H49.out⟩
      · have q48 : ((ch.toNat : Int) == 48) = false := by simp; omega
        have HNE := Lib.hid (show ch ≠ 48 from fun e => h48 (by rw [e]; rfl))
        clear h48
        go_wp2_with fail
        go_meet
        exact ⟨48, by decide, HNE.out, H48.out⟩
    case rest =>
      obtain ⟨c, hc1, hc2, hC⟩ := hcut
      have HC := Lib.hid hC
      obtain ⟨hk3', hche⟩ := HCH.out
      have hrr : 1 ≤ (r : Int) ∧ (r : Int) ≤ 64 := by omega
      obtain ⟨MB, hMB⟩ : ∃ MB : ByteArray, MB = ⟨(R.data.toList.set k c).toArray⟩ := ⟨_, rfl⟩
      have hMl : MB.data.toList = R.data.toList.set k c := by rw [hMB]
      have hMz : MB.size = R.size := by rw [hMB, size_bytes, List.length_set, HLl.out]
      have hRlen : (recL (r : Int) S d).length = R.size := by rw [← HRL.out]; exact HLl.out
      have hrs : ∃ d', recOf MB.data.toList = some ((r : Int), S, d') ∧ d ≠ d' := by
        rw [hMl, HRL.out]
        exact rec_set hrr S d hs32 HDL.out k (by omega) (by omega) c hc1 (by
          intro e
          apply hc2
          rw [hche, ← e]
          simp only [HRL.out])
      obtain ⟨d', hrec, hdd⟩ := hrs
      have hb := hC.b
      have HGc := Lib.hid (HG.out.keep hb)
      have TC := Lib.hid (fun (X Y : ByteArray) (v : Bool) (hX : X.size ≤ 1048576) (hY : Y.size ≤ 140737488351232) (hv : checkB X.data.toList Y.data.toList = v) dd os => Calls.regrown_of (show Calls Tryd.prog 22 #[.string X, .string Y] (grow (redrawn wc dd) os) (fun e w' => e = .returned (.bool v) ∧ Below (grow (redrawn wc dd) os).heap.size (grow (redrawn wc dd) os) w') by rw [← hv]; exact check_any X Y _ hX hY (HGc.out.keep (below_regrown wc dd os))))
      have T0 := Lib.hid (TC.out R P true (by omega) (by omega) (by rw [HRL.out, check_recL ⟨hrr.1, hrr.2, hs32, HDL.out⟩, HDP.out]; exact decide_eq_true rfl))
      obtain ⟨E, hE⟩ : ∃ E : Bool, E = decide (bytesOf 32 B = d) := ⟨_, rfl⟩
      have T1 := Lib.hid (TC.out R Q E (by omega) (by omega) (by rw [HRL.out, check_recL ⟨hrr.1, hrr.2, hs32, HDL.out⟩, HDQ.out, hE]))
      have T2 := Lib.hid (TC.out MB P false (by omega) (by omega) (by unfold checkB; rw [hrec]; show decide (derL P.data.toList S (r : Int) = d') = false; rw [HDP.out]; exact decide_eq_false hdd))
      have T4 := Lib.hid (TC.out (R ++ ⟨#[32]⟩) P false (by rw [ByteArray.size_append]; show R.size + 1 ≤ 1048576; omega) (by omega) (by
        apply check_none
        rw [show (R ++ ⟨#[32]⟩ : ByteArray).data.toList = R.data.toList ++ [32] by simp, HRL.out]
        exact rec_blank S d))
      have T5 := Lib.hid (TC.out (⟨#[58]⟩ ++ R) P false (by rw [ByteArray.size_append]; show 1 + R.size ≤ 1048576; omega) (by omega) (by
        apply check_none
        rw [show (⟨#[58]⟩ ++ R : ByteArray).data.toList = 58 :: R.data.toList by simp, HRL.out]
        exact rec_colon))
      have T3 := Lib.hid (fun dd os => Calls.regrown_of (show Calls Tryd.prog 20 #[.string MB] (grow (redrawn wc dd) os) (fun e w' => e = .returned (.bool true) ∧ Below (grow (redrawn wc dd) os).heap.size (grow (redrawn wc dd) os) w') by
        have := right_any MB (grow (redrawn wc dd) os) (by omega) (HGc.out.keep (below_regrown wc dd os))
        rwa [show rightB MB.data.toList = true by unfold rightB; rw [hrec]; rfl] at this))
      obtain ⟨HA, hHA⟩ : ∃ HA : ByteArray, HA = ⟨(hexL (bytesOf 32 A)).toArray⟩ := ⟨_, rfl⟩
      have TH := Lib.hid (fun dd os => Calls.regrown_of (show Calls Tryd.prog 23 #[.slice (some ⟨g13, 0, none⟩) 32 32] (grow (redrawn wc dd) os) (fun e w' => e = .returned (.string HA) ∧ Below (grow (redrawn wc dd) os).heap.size (grow (redrawn wc dd) os) w') by rw [hHA]; exact hex_n _ (bytesOf 32 A) 32 32 _ (bytesOf_length _ _) ((arr_bs HC.out.a HAL.out).keep (below_regrown wc dd os)) (by rw [bytesOf_length]; decide)))
      have cvM : ∀ dd os, (convert 22 9 (.slice (some ⟨gB, 0, none⟩) R.size capr)).run Tryd.prog (grow (redrawn wc dd) os) = .ok (.string MB) (grow (redrawn wc dd) os) := fun dd os => by
        rw [hMB]
        exact run_row_string (P := Tryd.prog) _ 22 5 9 Tryd.underlying22 Tryd.underlying5 Tryd.underlying9 gB _ (row8_keep HC.out.m HC.out.lt (below_regrown wc dd os)) R.size capr (by rw [List.length_set, HLl.out])
      have s3 : ∀ W, (Instr.slice 9 (.string R) (some (.int .i64 ((R.size : Int) - 64))) none none).run Tryd.prog W = .ok (.string HA) W := fun W => by
        have h := run_slice_string_l (P := Tryd.prog) W 9 R Tryd.underlying9 .i64 ((R.size : Int) - 64) (by omega) (by omega)
        rw [show R.extract ((R.size : Int) - 64).toNat R.size = HA by
          apply ByteArray.ext
          apply Array.toList_inj.1
          rw [Lib.extract_to_end, hHA, HRL.out, show ((R.size : Int) - 64).toNat = (recL (r : Int) S d).length - 64 by rw [hRlen]; omega, rec_tail _ S d HDL.out, HdA.out]] at h
        exact h
      have e1 : ∀ W, (Op.equalIn 10000 25 (.agg (row .u8 32 A)) (.agg (row .u8 32 B))).run Tryd.prog W = .ok E W := fun W => by
        rw [eql_rows A B HAL.out HBL.out W, hE]
        congr 1
        rw [Bool.eq_iff_iff, decide_eq_true_eq, decide_eq_true_eq, HdA.out]
        exact eq_comm
      have HAc := Lib.hid HC.out.a
      have HBc := Lib.hid HC.out.a2
      have hz1 : MB.size ≤ 131 := by omega
      clear hc1 hc2 hC hche hk3' hMl hMz hMB hRlen hrec hdd hE hHA TC HGc HC
      go_wp2_with fail
      refine wp_region_quiet_below (by kernel_rfl) (by kernel_rfl) ?_
      repeat (any_goals (first | (refine wpQuiet_step (fun K hK => ?_); rw [if_pos (by rfl)]; (first | (with_reducible refine quiet_load_arrB 25 (.tmp 13) rfl g13 rfl .u8 32 25 A HAc.out _ Tryd.underlying25 rfl HN ?_) | (with_reducible refine quiet_load_arrB 25 (.tmp 14) rfl g14 rfl .u8 32 25 B HBc.out _ Tryd.underlying25 rfl HN ?_)); go_simp; refine hK _ ?_; clear hK K) | go_big_quiet_step (first | (go_at_call 22; with_reducible exact T0.out _ _) | (go_at_call 22; with_reducible exact T1.out _ _) | (go_at_call 22; with_reducible exact T2.out _ _) | (go_at_call 22; with_reducible exact T4.out _ _) | (go_at_call 22; with_reducible exact T5.out _ _) | (go_at_call 20; with_reducible exact T3.out _ _) | (go_at_call 23; with_reducible exact TH.out _ _))))
      refine wpQuiet_nil ?_
      intro _ hw'
      obtain ⟨⟨dq, osq⟩, hw''⟩ := hw'
      subst hw''
      replace hb := hb.trans ((below_regrown _ dq osq).mono hb.size)
      clear T0 T1 T2 T3 T4 T5 TH
      go_wp2_with fail
      go_ret
      exact ⟨rfl, hb⟩

end Go.Proofs.YtjcohlpjlifolaaDoor.macChecks
