/-
  'tipstafflaw02.ShaRoots': for all bytes it answers true.
-/
import Derived.Test.YtnleddfojejbeaaDoorShaSumsWalk
import Derived.Test.YtnleddfojejbeaaDoorRefRoots
namespace Go.Proofs.YtnleddfojejbeaaDoor.shaRoots
open Go.RowKit Kit ShaMath ShaT HexW shaBack RefT RootT
set_option linter.unusedVariables false
-- ASKS: ShaT.Tabs

theorem own_all {w : World} {base n : Nat} {l : List UInt8} {v : Value} (h : w.ownsRow base 5 1 v n (bv l)) (hn : n = l.length) : ∃ p c, v = .slice p l.length c ∧ Bs w p l ∧ l.length ≤ c ∧ c ≤ 9223372036854775807 ∧ (p = none → c = 0) := by
  subst hn
  obtain ⟨p, c, rfl, hb⟩ := own_bs h
  refine ⟨p, c, rfl, hb, ?_⟩
  rcases h.2 with ⟨e, h0⟩ | ⟨g', cap, cur, e, _, _, h1, h2, _⟩
  · injection e with e1 e2 e3
    subst e1 e3
    exact ⟨by omega, by omega, fun _ => rfl⟩
  · injection e with e1 e2 e3
    subst e1 e3
    exact ⟨h1, by unfold maxLen at h2; omega, fun h => by cases h⟩

set_option maxHeartbeats 1000000 in
theorem walk (c n : Int) (w : World) (hc0 : 0 ≤ c) (hc1 : c ≤ 255) (hn0 : 0 ≤ n) (hn1 : n ≤ 255) (hg : Tabs w) :
    Calls Tryd.prog 4 #[.int .u8 c, .int .u8 n] w fun e w' => e = .returned (.bool true) ∧ Below w.heap.size w w' := by
  obtain ⟨i0, hi0, hz0, hz1, hzb⟩ := info_parts u8_info
  obtain ⟨u, hu⟩ : ∃ u : UInt8, u = UInt8.ofNat c.toNat := ⟨_, rfl⟩
  have huc : (u.toNat : Int) = c := by rw [hu, UInt8.toNat_ofNat']; omega
  have HU := Lib.hid (show bv [u] = [.int .u8 c] by unfold bv; simp only [List.map_cons, List.map_nil]; rw [huc])
  clear hu huc
  go_enter Tryd.func4, Tryd.ntmps4
  go_wp2_with fail
  refine (shown_any _ hg).mono ?_
  rintro e w1 ⟨rfl, hb1⟩
  have HG := Lib.hid (hg.keep hb1)
  have HB1 := Lib.hid hb1
  clear hb1
  go_wp2_with fail
  go_loopw [6, 7] (fun v i wr => ∃ k : Nat, (k : Int) ≤ n % 131 ∧ i = .int .i64 k ∧ Below w1.heap.size w1 wr ∧ wr.ownsRow w1.heap.size 5 1 v k (bv (List.replicate k u))) (fun _ i _ => (n % 131).toNat - (intOf i).toNat)
  case atStart => exact ⟨0, by omega, rfl, below1 _ _, own_lit0 w1⟩
  case round =>
    obtain ⟨k, hk, rfl, hbel, hown⟩ := hrel
    have hbs := hbel.size
    by_cases hlt : (k : Int) < n % 131
    · have hd : decide ((k : Int) < n % 131) = true := decide_eq_true hlt
      go_wp2_with (at_builtin; refine wpList_append_own _ rfl (.tmp 18) (.tmp 20) 22 rfl w1.heap.size 5 i0 (.int .u8 0) 1 1 Tryd.underlying22 hi0 hz0 hz1 hzb rfl (by decide) u6 k _ rfl (hown.alloc _) ⟨wr.heap.size, 0, none⟩ 1 1 [.int .u8 c] rfl rfl (one_news _ _ _) (by simp [Value.oneCell']) (by unfold maxLen; omega) (by omega) (by simp; omega) ?_; intro v3 w3 hown3 hgrow3 _; have hb3 := Lib.hid ((hbel.alloc hbs _).grown hgrow3 (by simp; omega) (own_base hown)); have HO3 := Lib.hid hown3; clear hgrow3 hown3)
      go_roundw
      case rel => exact ⟨k + 1, by omega, by go_num, hb3.out, by
        rw [List.replicate_succ', bv_app, HU.out]
        exact HO3.out⟩
      case measure => simp [intOf]; omega
    · have hd : decide ((k : Int) < n % 131) = false := decide_eq_false hlt
      obtain ⟨l, hl⟩ : ∃ l, l = List.replicate k u := ⟨_, rfl⟩
      obtain rfl : k = l.length := by rw [hl]; simp
      rw [← hl] at hown
      clear hl
      obtain ⟨p, cc, rfl, hB, hlc, hc2, hnil⟩ := own_all hown rfl
      have HL1 := Lib.hid hB
      have HB2 := Lib.hid (HB1.out.trans (hbel.mono HB1.out.size))
      have HG2 := Lib.hid (HG.out.keep hbel)
      have hll : l.length ≤ 131 := by omega
      clear hB hown hbel
      go_wp2_with fail
      refine (roots_any _).mono ?_
      rintro e w2 ⟨rfl, hb2⟩
      have HL2 := Lib.hid (HL1.out.keep hb2)
      have HB3 := Lib.hid (HB2.out.trans (hb2.mono HB2.out.size))
      have HG3 := Lib.hid (HG2.out.keep hb2)
      clear hb2 HL1 HB2 HG2
      go_wp2_with fail
      refine (sum_any p l cc _ HL2.out (by omega) hlc hc2 HG3.out).mono ?_
      rintro e w3 ⟨rfl, hb3⟩
      have HL3 := Lib.hid (HL2.out.keep hb3)
      have HB4 := Lib.hid (HB3.out.trans (hb3.mono HB3.out.size))
      clear hb3 HL2 HB3
      go_wp2_with fail
      refine (rsum_any p l cc _ HL3.out (by omega) hnil).mono ?_
      rintro e w4 ⟨rfl, hb4⟩
      have HB5 := Lib.hid (HB4.out.trans (hb4.mono HB4.out.size))
      have he := shaSums.eql_row (sumAt l) (shaSums.tb_lt _) w4
      clear hb4 HB4
      go_wp2_with fail
      go_ret
      exact ⟨rfl, HB5.out⟩

end Go.Proofs.YtnleddfojejbeaaDoor.shaRoots
