/-
  The landed code of layer 8: what a request that is one needs; what the laws ask of this layer.
-/
import Derived.Test.YtonoelpmmjnpeaaUseOf1
import Derived.Deep.RegionLaw
namespace Go.Proofs.Ytonoelpmmjnpeaa.UseM
open Go.RowKit Kit StrT UseT TableMath Low MapT RefU
open RefTab (results_cell_slot atV_in)
set_option linter.unusedVariables false
set_option maxRecDepth 100000

theorem need_room {W : World} {g : Nat} {x0 x1 x2 x3 x4 : Value} (h : W.heap[g]? = some (.cells #[x0, x1, x2, x3, x4] 27 (0, 0))) :
    (W.cell? ⟨g, 0, none⟩ = some x0 ∧ W.cell? ⟨g, 1, none⟩ = some x1 ∧ W.cell? ⟨g, 2, none⟩ = some x2 ∧ W.cell? ⟨g, 3, none⟩ = some x3 ∧ W.cell? ⟨g, 4, none⟩ = some x4) ∧
    W.frozen? ⟨g, 0, none⟩ = false ∧ W.frozen? ⟨g, 1, none⟩ = false ∧ W.frozen? ⟨g, 2, none⟩ = false ∧ W.frozen? ⟨g, 3, none⟩ = false ∧ W.frozen? ⟨g, 4, none⟩ = false := by
  refine ⟨⟨?_, ?_, ?_, ?_, ?_⟩, frozen_of_row _ _ _ _ 27 h, frozen_of_row _ _ _ _ 27 h, frozen_of_row _ _ _ _ 27 h, frozen_of_row _ _ _ _ 27 h, frozen_of_row _ _ _ _ 27 h⟩
  all_goals
    rw [cell_of_row _ _ _ _ 27 _ h]
    rfl
/-- A need stored cell by cell. -/
def five (W : World) (g : Nat) (y0 y1 y2 y3 y4 : Value) : World := ((((W.setCell ⟨g, 0, none⟩ y0).setCell ⟨g, 1, none⟩ y1).setCell ⟨g, 2, none⟩ y2).setCell ⟨g, 3, none⟩ y3).setCell ⟨g, 4, none⟩ y4
theorem need_five {W : World} {g : Nat} {x0 x1 x2 x3 x4 : Value} (h : W.heap[g]? = some (.cells #[x0, x1, x2, x3, x4] 27 (0, 0))) (y0 y1 y2 y3 y4 : Value) : (five W g y0 y1 y2 y3 y4).heap[g]? = some (.cells #[y0, y1, y2, y3, y4] 27 (0, 0)) := by
  have h1 := heap_setCell_same _ _ 0 _ _ y0 h
  have h2 := heap_setCell_same _ _ 1 _ _ y1 h1
  have h3 := heap_setCell_same _ _ 2 _ _ y2 h2
  have h4 := heap_setCell_same _ _ 3 _ _ y3 h3
  exact heap_setCell_same _ _ 4 _ _ y4 h4
theorem five_other (W : World) (g j : Nat) (y0 y1 y2 y3 y4 : Value) (h : j ≠ g) : (five W g y0 y1 y2 y3 y4).heap[j]? = W.heap[j]? := by
  unfold five
  rw [heap_setCell_other _ _ _ _ h, heap_setCell_other _ _ _ _ h, heap_setCell_other _ _ _ _ h, heap_setCell_other _ _ _ _ h, heap_setCell_other _ _ _ _ h]
theorem five_size (W : World) (g : Nat) (y0 y1 y2 y3 y4 : Value) : W.heap.size ≤ (five W g y0 y1 y2 y3 y4).heap.size := by simp [five]
theorem five_below {B g : Nat} {w W : World} (h : Below B w W) (hg : B ≤ g) (y0 y1 y2 y3 y4 : Value) : Below B w (five W g y0 y1 y2 y3 y4) :=
  ((((h.setCell (p := ⟨g, 0, none⟩) hg y0).setCell (p := ⟨g, 1, none⟩) hg y1).setCell (p := ⟨g, 2, none⟩) hg y2).setCell (p := ⟨g, 3, none⟩) hg y3).setCell (p := ⟨g, 4, none⟩) hg y4
theorem need_end5 {w w6 : World} {args : List (List UInt8)} {m : List UInt8} {KK : List U} {vk vc : Value} {a z : Bool} {k : Int} {base : Nat} (hbase : w.heap.size < base) (hb : Below w.heap.size w w6) (hm : ofN args = ⟨(findK m : Int), KK, decide (m = nKeys ∨ m = nDbsize), decide (m = nFlush), chansL m args⟩ ∧ ofE args = 0) (hk : (findK m : Int) = k)
    (hU : AnsU base w6 vk KK) (hS : AnsS base w6 vc (chansL m args)) (ha : decide (m = nKeys ∨ m = nDbsize) = a) (hz : decide (m = nFlush) = z) :
    OfP args w (.returned (.tuple #[.agg #[.int .i64 k, vk, .bool a, .bool z, vc], .int .i64 0])) (five w6 w.heap.size (.int .i64 k) vk (.bool a) (.bool z) vc) := by
  subst hk ha hz
  have ho : ∀ j, base ≤ j → (five w6 w.heap.size (.int .i64 (findK m : Int)) vk (.bool (decide (m = nKeys ∨ m = nDbsize))) (.bool (decide (m = nFlush))) vc).heap[j]? = w6.heap[j]? := fun j hj => five_other w6 _ j _ _ _ _ _ (by omega)
  refine ofP_mk (by rw [hm.2]; rfl) ?_ (five_below hb (Nat.le_refl _) _ _ _ _ _)
  rw [hm.1]
  exact ⟨vk, vc, rfl, ansU_low (ansU_high hU ho (five_size _ _ _ _ _ _ _)) (by omega), ansS_low (ansS_high hS ho (five_size _ _ _ _ _ _ _)) (by omega)⟩

set_option maxHeartbeats 4000000 in
theorem of_ok (q : Option Addr) (args : List (List UInt8)) (n c : Nat) (w : World) (H : Args w q args n c) (h0 : 0 < n) (hs : (args.getD 0 []).length ≤ 140737488351232) (hf : findB (nameL args) = true) (hok : okL (nameL args) n = true) :
    Calls Try.prog 10 #[.slice q n c] w (OfP args w) := by
  have HArg := Lib.hid H
  have hn := H.len
  have HB := Lib.hid (bel1 w (.cells #[.int .i64 0, .slice none 0 0, .bool false, .bool false, .slice none 0 0] 27))
  have HNe : args ≠ [] := fun e => by rw [e] at hn; simp at hn; omega
  have HR := Lib.hid (UseT.of_ok HNe hf (by rw [hn]; exact hok))
  obtain ⟨b, off, rfl, hlt, hu⟩ := ss_first H.ss (by omega)
  obtain ⟨S, hS⟩ : ∃ S : ByteArray, S = ⟨(args.getD 0 []).toArray⟩ := ⟨_, rfl⟩
  have hSs : S.size ≤ 140737488351232 := by rw [hS]; simpa [ByteArray.size] using hs
  have hSl : lowL S.data.toList = nameL args := by rw [hS]; rfl
  rw [← hS] at hu
  have CF := Lib.hid (fun W => TableM.find_any S W hSs)
  rw [hSl] at CF
  obtain ⟨m, hm⟩ : ∃ m, m = nameL args := ⟨_, rfl⟩
  rw [← hm] at CF hf hok HR
  have t0 : ((n : Int) == 0) = false := by rw [beq_eq_false_iff_ne]; omega
  have hn0 : (0 : Int) < (n : Int) := by omega
  have hfew := H.few
  have hu2 : (w.alloc (.cells #[.int .i64 0, .slice none 0 0, .bool false, .bool false, .slice none 0 0] 27)).cell? ⟨b, off, none⟩ = some (.string S) := by
    rw [(bel1 w _).cell (p := ⟨b, off, none⟩) hlt]
    exact hu
  rw [hf] at CF
  have hkv : findV m = (findK m : Int) := (findV_at (find_name hf).1 rfl).1
  rw [hkv] at CF
  have hk56 := (find_name hf).1
  have CFit := Lib.hid (fun W => TableM.fits_any (findK m : Int) (n : Int) W (by omega) (by omega) (by omega) (by omega))
  have CAt := Lib.hid (fun W => TableM.at_any (findK m : Int) W (by omega) (by omega))
  obtain ⟨T, r, g, hag, hTd, hab⟩ := row_of hf
  rw [hag, hab] at CAt
  have HKm := Lib.hid (kind_asks hf hok)
  have HKn := Lib.hid (kind_of hf)
  have HKc := Lib.hid (chans_kind hf args)
  have HKk := Lib.hid (keys_kind m args)
  have HGt := Lib.hid (get_kind hf)
  have CN := Lib.hid (fun W (h : Below w.heap.size w W) => need_any (kindN m) (findK m : Int) _ args n c W (H.keep h) (kind_le m) (kind_asks hf hok))
  unfold okL at hok
  rw [Bool.and_eq_true] at hok
  have hfit := hok.1
  have tst : (T.toList == [109, 115, 101, 116]) = false ∨ ((T.toList == [109, 115, 101, 116]) = true ∧ ((n : Int) % 2 == 0) = false) := by
    cases hT : (T.toList == [109, 115, 101, 116]) with
    | false => exact Or.inl rfl
    | true =>
      refine Or.inr ⟨rfl, ?_⟩
      rw [ByteArray.toList_eq, hTd, beq_iff_eq] at hT
      have h2 := hok.2
      simp [show m = nMset from hT] at h2
      rw [beq_eq_false_iff_ne]
      omega
  have mst : (T.toList == (⟨#[109, 115, 101, 116]⟩ : ByteArray).toList) = (T.toList == [109, 115, 101, 116]) := by rw [ByteArray.toList_eq (⟨#[109, 115, 101, 116]⟩ : ByteArray)]
  obtain ⟨k, hk⟩ : ∃ k, k = findK m := ⟨_, rfl⟩
  rw [← hk] at CF CFit hk56 CAt CN hfit
  rw [hfit] at CFit
  have HK := Lib.hid (show (findK m : Int) = (k : Int) by rw [hk])
  have HTd := Lib.hid hTd
  obtain ⟨d, hd⟩ : ∃ d, d = kindN m := ⟨_, rfl⟩
  rw [← hd] at HKm HKn HKc HKk HGt CN
  clear hn hS hs hSs hSl hu hkv hTd hok hfit hk H HNe hm hf hag hab hd
  go_enter Try.func10, Try.ntmps10
  go_wp2_with fail
  refine (CF.out _).mono ?_
  rintro e w1 ⟨rfl, hb1⟩
  have HB1 := Lib.hid (HB.out.trans (hb1.mono HB.out.size))
  have HH1 := Lib.hid (show w1.heap[w.heap.size]? = some (.cells #[.int .i64 0, .slice none 0 0, .bool false, .bool false, .slice none 0 0] 27 (0, 0)) by rw [hb1.block w.heap.size (by simp)]; exact heap_alloc_last w _)
  clear hb1 hu2 CF HB
  go_wp2_with fail
  refine (CAt.out _).mono ?_
  rintro e w2 ⟨rfl, hb2⟩
  have HS1 := Lib.hid (show w.heap.size < w1.heap.size from (Array.getElem?_eq_some_iff.1 HH1.out).1)
  have HB2 := Lib.hid (HB1.out.trans (hb2.mono HB1.out.size))
  have HH2 := Lib.hid (show w2.heap[w.heap.size]? = some (.cells #[.int .i64 0, .slice none 0 0, .bool false, .bool false, .slice none 0 0] 27 (0, 0)) by rw [hb2.block w.heap.size HS1.out]; exact HH1.out)
  have HS2 := Lib.hid (show w.heap.size < w2.heap.size from (Array.getElem?_eq_some_iff.1 HH2.out).1)
  have HB3 := Lib.hid (HB2.out.alloc HB2.out.size (.cells #[.string T, .int .i64 r, .int .u16 g] 37))
  have HH3 := Lib.hid (show (w2.alloc (.cells #[.string T, .int .i64 r, .int .u16 g] 37)).heap[w.heap.size]? = some (.cells #[.int .i64 0, .slice none 0 0, .bool false, .bool false, .slice none 0 0] 27 (0, 0)) by rw [Below.heap_alloc _ _ _ HS2.out]; exact HH2.out)
  have HD3 := Lib.hid (show (w2.alloc (.cells #[.string T, .int .i64 r, .int .u16 g] 37)).heap[w2.heap.size]? = some (.cells #[.string T, .int .i64 r, .int .u16 g] 37 (0, 0)) from heap_alloc_last w2 _)
  have HS3 := Lib.hid (show w.heap.size < (w2.alloc (.cells #[.string T, .int .i64 r, .int .u16 g] 37)).heap.size ∧ w2.heap.size < (w2.alloc (.cells #[.string T, .int .i64 r, .int .u16 g] 37)).heap.size by have := HS2.out; simp; omega)
  clear HB1 HH1 HS1 hb2 HB2 HH2 HS2 CAt
  go_wp2_with fail
  generalize w2.alloc (.cells #[.string T, .int .i64 r, .int .u16 g] 37) = w3 at HB3 HH3 HD3 HS3 ⊢
  refine (CFit.out _).mono ?_
  rintro e w4 ⟨rfl, hb4⟩
  have HB4 := Lib.hid (HB3.out.trans (hb4.mono HB3.out.size))
  have HH4 := Lib.hid (show w4.heap[w.heap.size]? = some (.cells #[.int .i64 0, .slice none 0 0, .bool false, .bool false, .slice none 0 0] 27 (0, 0)) by rw [hb4.block w.heap.size HS3.out.1]; exact HH3.out)
  have HS4 := Lib.hid (show w.heap.size < w4.heap.size ∧ w2.heap.size < w4.heap.size by have := hb4.size; have := HS3.out; omega)
  have hc4 : w4.cell? ⟨w2.heap.size, 0, none⟩ = some (.string T) := by
    rw [hb4.cell (p := ⟨w2.heap.size, 0, none⟩) HS3.out.2, cell_of_row _ _ _ _ 37 _ HD3.out]
    rfl
  clear hb4 HB3 HH3 HD3 HS3 CFit
  have CS := Lib.hid (fun W => shapes_any W)
  have HLk := Lib.hid (fun (W : World) (bm : Nat) (h : MapAt W bm shapesL) => (lookup_lit Try.underlying53 Try.underlying9 h T (shOf 12) (shapes_zero W)))
  rw [HTd.out, HGt.out] at HLk
  generalize hsh : shOf d = SH at HLk CN
  have HA8 := Lib.hid (show decide (m = nKeys ∨ m = nDbsize) = decide (d = 8) by rw [Bool.eq_iff_iff, decide_eq_true_eq, decide_eq_true_eq]; exact HKn.out.2.2.1)
  have HA9 := Lib.hid (show decide (m = nFlush) = decide (d = 9) by rw [Bool.eq_iff_iff, decide_eq_true_eq, decide_eq_true_eq]; exact HKn.out.2.2.2)
  obtain ⟨a8, h8⟩ : ∃ a8, a8 = decide (d = 8) := ⟨_, rfl⟩
  obtain ⟨a9, h9⟩ : ∃ a9, a9 = decide (d = 9) := ⟨_, rfl⟩
  rw [← h8] at HA8 CN
  rw [← h9] at HA9 CN
  rw [← HKk.out, ← HKc.out] at CN
  unfold needL at HR
  generalize keysL m args = KK at CN HR
  clear HKm HKn HKc HKk HGt h8 h9 hsh hfew hk56
  rcases tst with t1 | ⟨t1, t2⟩
  all_goals
    rw [t1] at mst
    go_wp2_with fail
    go_region_law (first
      | (go_simp; (with_reducible refine (CS.out _).mono ?_); rintro e w5 ⟨rfl, hM, hb5⟩; dsimp only
         have hM' : MapAt w5 w4.heap.size shapesL := hM
         have hlk := HLk.out w5 _ hM'
         have hlk2 : Sem.run Try.prog (Instr.lookup 53 (.map (some w4.heap.size)) (.string T) false) w5.drew = .ok SH w5.drew := HLk.out w5.drew _ hM'.drew
         have hb5' : Below w4.heap.size w4 w5 := (Below.refl w4.heap.size w4).drew.trans hb5
         have hc5 : w5.cell? ⟨w2.heap.size, 0, none⟩ = some (.string T) := (hb5'.cell (p := ⟨w2.heap.size, 0, none⟩) HS4.out.2).trans hc4
         have HB5 := Lib.hid (HB4.out.trans (hb5'.mono HB4.out.size))
         have HH5 := Lib.hid ((hb5'.block w.heap.size HS4.out.1).trans HH4.out)
         have HS5 := Lib.hid (Nat.lt_of_lt_of_le HS4.out.1 hb5'.size)
         clear hM hM' hb5 hb5')
      | (go_simp; (with_reducible refine (CN.out _ (by first | exact HB5.out | exact HB5.out.drew)).mono ?_); rintro e w6 ⟨vk, vc, rfl, ⟨qk, ck, rfl, hU⟩, ⟨qc, cc, rfl, hS⟩, hb6⟩; dsimp only
         have hb6' : Below w5.heap.size w5 w6 := by first | exact hb6 | exact (Below.refl w5.heap.size w5).drew.trans hb6
         have HU6 := Lib.hid (show AnsU w5.heap.size w6 (.slice qk KK.length ck) KK from ⟨qk, ck, rfl, hU⟩)
         have HS6 := Lib.hid (show AnsS w5.heap.size w6 (.slice qc (chansL m args).length cc) (chansL m args) from ⟨qc, cc, rfl, hS⟩)
         have HB6 := Lib.hid (HB5.out.trans (hb6'.mono HB5.out.size))
         have HH6 := Lib.hid ((hb6'.block w.heap.size HS5.out).trans HH5.out)
         generalize hkl : KK.length = m1 at HU6 ⊢
         generalize hcl : (chansL m args).length = m2 at HS6 ⊢
         clear hkl hcl
         have HCs := Lib.hid (show (Try.prog.info? 27).map (·.size) = some (#[.int .i64 (k : Int), .slice qk m1 ck, .bool a8, .bool a9, .slice qc m2 cc] : Array Value).size from need_size)
         have HOn := Lib.hid (show (#[.int .i64 (k : Int), .slice qk m1 ck, .bool a8, .bool a9, .slice qc m2 cc] : Array Value).all (·.oneCell') = true by simp [Value.oneCell'])
         obtain ⟨⟨c0, c1, c2, c3, c4⟩, f0, f1, f2, f3, f4⟩ := need_room HH6.out
         clear hU hS hb6 hb6'))
  all_goals
    have HE := Lib.hid (need_end5 HS5.out HB6.out HR.out HK.out HU6.out HS6.out HA8.out HA9.out)
    have HHe := Lib.hid (need_five HH6.out (.int .i64 (k : Int)) (.slice qk m1 ck) (.bool a8) (.bool a9) (.slice qc m2 cc))
    go_wp2_with fail
    exact bodyPost_ret (results_cell_slot rfl _ _ w.heap.size 27 #[.int .i64 (k : Int), .slice qk m1 ck, .bool a8, .bool a9, .slice qc m2 cc] (0, 0) _ (.int .i64 0) rfl HHe.out Try.underlying27 rfl HCs.out rfl) rfl HE.out

theorem of_any (q : Option Addr) (args : List (List UInt8)) (n c : Nat) (w : World) (hn : args.length = n) (h : Ss w q args) (hz : n ≤ 1048576) (hcap : n ≤ c) (hcm : c ≤ 9223372036854775807) (hnil : q = none → c = 0) (hs : (args.getD 0 []).length ≤ 140737488351232) :
    Calls Try.prog 10 #[.slice q n c] w (OfP args w) := by
  rcases Nat.eq_zero_or_pos n with h0 | h0
  · subst h0
    obtain rfl : args = [] := List.eq_nil_of_length_eq_zero hn
    exact of_nil q c w
  · by_cases hf : findB (nameL args) = true
    · by_cases hok : okL (nameL args) n = true
      · exact of_ok q args n c w ⟨hn, h, hz, hcap, hcm, hnil⟩ h0 hs hf hok
      · exact of_bad q args n c w hn h hz h0 hs (Or.inr (by simpa using hok))
    · exact of_bad q args n c w hn h hz h0 hs (Or.inl (by simpa using hf))

end Go.Proofs.Ytonoelpmmjnpeaa.UseM
