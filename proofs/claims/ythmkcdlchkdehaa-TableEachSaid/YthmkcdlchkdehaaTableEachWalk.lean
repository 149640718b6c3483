/-
  TableEach: each command is found by its name; no two have one; it is in just its categories; it may have as many words as it must.
-/
import Derived.Test.YthmkcdlchkdehaaTableLaw
import Derived.Test.YthmkcdlchkdehaaTableBits
import Derived.Test.YthmkcdlchkdehaaLowNum
import Derived.Laws.BitsLemmas
import Derived.Lib.QuietBelow
import Derived.BigQuiet
import Derived.Deep.QuietTactic
import Derived.Deep.DeepCutAuto
namespace Go.Proofs.Ythmkcdlchkdehaa.tableEach
open Go.RowKit Kit TableMath Low StrT TableM TableL
open Go.Sort (grow)
set_option linter.unusedVariables false
set_option maxRecDepth 100000
-- ASKS: 

def CmdAt (w : World) (b : Nat) (S : ByteArray) (r g : Int) : Prop := b < w.heap.size ∧ w.cell? ⟨b, 0, none⟩ = some (.string S) ∧ w.cell? ⟨b, 1, none⟩ = some (.int .i64 r) ∧ w.cell? ⟨b, 2, none⟩ = some (.int .u16 g)
theorem CmdAt.keep {w w' : World} {b : Nat} {S : ByteArray} {r g : Int} (h : CmdAt w b S r g) (hb : Below w.heap.size w w') : CmdAt w' b S r g :=
  ⟨Nat.lt_of_lt_of_le h.1 hb.size, by rw [hb.cell (p := ⟨b, 0, none⟩) h.1]; exact h.2.1, by rw [hb.cell (p := ⟨b, 1, none⟩) h.1]; exact h.2.2.1, by rw [hb.cell (p := ⟨b, 2, none⟩) h.1]; exact h.2.2.2⟩
theorem cmd_cells (w : World) (S : ByteArray) (r g : Int) (W : World) (k : Nat) (hW : W = w.alloc (.cells #[.string S, .int .i64 r, .int .u16 g] 25)) (hk : k = w.heap.size) : CmdAt W k S r g := by
  subst hW hk
  have hh := heap_alloc_last w (.cells #[.string S, .int .i64 r, .int .u16 g] 25)
  refine ⟨by simp, ?_, ?_, ?_⟩ <;> rw [cell_of_row _ _ _ _ _ _ hh] <;> rfl
theorem bit16 (g k : Nat) (hg : g ≤ 65535) : bits .and .u16 ((g : Int) / 2 ^ k) 1 = ((g / 2 ^ k % 2 : Nat) : Int) := by
  have e : (g : Int) / 2 ^ k = ((g / 2 ^ k : Nat) : Int) := by rw [Int.natCast_ediv, Int.natCast_pow]; rfl
  have h := Nat.div_le_self g (2 ^ k)
  rw [e]
  have := bits_mask .u16 16 (by decide) (fun n h0 h1 => by
    have : IntKind.u16.wrap n = n % 65536 := by simp [IntKind.wrap, IntKind.bits, IntKind.signed]
    rw [this]; omega) 1 (by decide) ((g / 2 ^ k : Nat) : Int) (Int.natCast_nonneg _) (by omega)
  simpa using this

theorem cat_cell {w : World} {b o : Nat} (h : Ss w (some ⟨b, o, none⟩) cats) (k : Nat) (hk : k < 12) : ∃ S : ByteArray, S.data.toList = catAt k ∧ S.size ≤ 100 ∧ b < w.heap.size ∧ w.cell? ⟨b, o + k, none⟩ = some (.string S) := by
  obtain ⟨b', o', e1, hbl, hc⟩ := h (by decide)
  injection e1 with e1
  injection e1 with e2 e3 e4
  subst e2 e3
  refine ⟨⟨(cats[k]'(by rw [cats_len]; exact hk)).toArray⟩, by rw [catAt_get k hk], ?_, hbl, hc k (by rw [cats_len]; exact hk)⟩
  have := catAt_len k hk
  rw [catAt_get k hk] at this
  simpa [ByteArray.size] using this

set_option maxHeartbeats 4000000 in
theorem walk0 (n m : Nat) (w : World) (hn : n ≤ 255) (hm : m ≤ 65535) :
    Calls Try.prog 4 #[.int .u8 (n : Int), .int .u16 (m : Int)] w fun e w' => e = .returned (.bool true) ∧ Below w.heap.size w w' := by
  have C0 := Lib.hid (shown_any w)
  have CA := Lib.hid (fun id W h0 h1 => at_any id W h0 h1)
  obtain ⟨id, hid⟩ : ∃ id : Nat, (n : Int) % 56 = (id : Int) := ⟨n % 56, by omega⟩
  have hid56 : id < 56 := by omega
  obtain ⟨hne, hnl, hlet⟩ := name_letters id hid56
  have hfn := find_name id hid56
  obtain ⟨hr0, hr1, hr2⟩ := ar_some id hid56
  have HV := Lib.hid (show atV (id : Int) = cmdAt id from RefTab.atV_in (by omega) (by omega))
  have HVb := Lib.hid (show atB (id : Int) = true from decide_eq_true (by omega))
  have hcs := ct_small id hid56
  have HBs := Lib.hid (fun k hk => bits_same id k hid56 hk)
  have HAp := Lib.hid (fun j hj h => apart_names j id hj hid56 h)
  have HFt := Lib.hid (fun r hr k => fits_least id hid56 r hr k)
  obtain ⟨C, hC⟩ : ∃ C, C = cmdAt id := ⟨_, rfl⟩
  rw [← hC] at hne hnl hlet hfn hr0 hr1 hr2 HV hcs HBs HAp HFt
  obtain ⟨N, hN⟩ : ∃ N, N = C.name := ⟨_, rfl⟩
  obtain ⟨S, hS⟩ : ∃ S : ByteArray, S = ⟨N.toArray⟩ := ⟨_, rfl⟩
  obtain ⟨r, hr⟩ : ∃ r, r = C.ar := ⟨_, rfl⟩
  obtain ⟨gg, hgg⟩ : ∃ gg : Nat, gg = C.ct := ⟨_, rfl⟩
  have HAg := Lib.hid (show aggV (atV (id : Int)) = .agg #[.string S, .int .i64 r, .int .u16 (gg : Int)] by rw [HV.out, hS, hr, hgg, hN]; rfl)
  rw [← hN] at hne hnl hlet hfn HAp
  rw [← hr] at hr0 hr1 hr2
  have HFr := Lib.hid (fun k => HFt.out r hr k)
  rw [← hgg] at hcs HBs
  have HSd := Lib.hid (show S.data.toList = N by rw [hS])
  have hSz : S.size ≤ 20 := by
    have : S.data.toList.length = S.size := by simp
    rw [HSd.out] at this
    omega
  have HLow := Lib.hid (lowL_small hlet)
  have CF := Lib.hid (fun W => show Calls Try.prog 11 #[.string S] W (fun e w' => e = .returned (.tuple #[.int .i64 (id : Int), .bool true]) ∧ Below W.heap.size W w') from by
    have h := find_any S W (by omega)
    rw [HSd.out, HLow.out, hfn.1, hfn.2] at h
    exact h)
  have CLo := Lib.hid (fun W => show Calls Try.prog 20 #[.string S] W (fun e w' => e = .returned (.string S) ∧ Below W.heap.size W w') from by
    have h := LowN.lower_any S W (by unfold maxLen; omega)
    rw [HSd.out, HLow.out, ← hS] at h
    exact h)
  clear hC hN hS hr hgg hlet hfn hne hnl HV HLow HFt
  go_enter Try.func4, Try.ntmps4
  go_wp2_with fail
  refine C0.out.mono ?_
  rintro e w1 ⟨rfl, hb1⟩
  have HB1 := Lib.hid hb1
  clear hb1 C0
  go_wp2_with fail
  simp only [hid]
  have Hid' := Lib.hid hid
  clear hid
  refine (show Calls _ _ _ _ _ from CA.out (id : Int) w1 (by omega) (by omega)).mono ?_
  rintro e w2 ⟨rfl, hb2⟩
  rw [HAg.out, HVb.out]
  obtain ⟨W2, hW2⟩ : ∃ W, W = w2.alloc (.cells #[.string S, .int .i64 r, .int .u16 (gg : Int)] 25) := ⟨_, rfl⟩
  obtain ⟨g2, hg2⟩ : ∃ k, k = w2.heap.size := ⟨_, rfl⟩
  have hbw := HB1.out.trans (hb2.mono HB1.out.size)
  have HC2 := Lib.hid (cmd_cells w2 S r gg W2 g2 hW2 hg2)
  have HB2 := Lib.hid (show Below w.heap.size w W2 by rw [hW2]; exact hbw.alloc hbw.size _)
  obtain ⟨-, k0, -, -⟩ := HC2.out
  clear hb2 hbw HB1
  go_upto_region 4 with fail
  rw [← hW2, ← hg2]
  clear hW2 hg2
  go_wp2_with fail
  refine (CF.out _).mono ?_
  rintro e w3 ⟨rfl, hb3⟩
  have HC3 := Lib.hid (HC2.out.keep hb3)
  have HB3 := Lib.hid (HB2.out.trans (hb3.mono HB2.out.size))
  have hb := HB3.out
  obtain ⟨-, k0', k1', -⟩ := HC3.out
  have CT := Lib.hid (fun dd os => Calls.regrown_of (CLo.out (grow (redrawn w3 dd) os)))
  have e0 := fun dd os => cell_regrown k0' dd os
  have e1 := fun dd os => cell_regrown k1' dd os
  have tid : ((id : Int) != (id : Int)) = false := bne_self_eq_false _
  have tS : (S.toList != S.toList) = false := bne_self_eq_false _
  have tS2 : (S.toList == S.toList) = true := beq_self_eq_true _
  have tr : (r == 0) = false := by rw [beq_eq_false_iff_ne]; exact hr0
  have hbk := Below.refl w3.heap.size w3
  clear hb3 CF HC2 HB2 k0 k0' k1' CLo hb
  have hb := hbk
  clear hbk
  go_wp2_with fail
  refine wp_region_quiet_below (by kernel_rfl) (by kernel_rfl) ?_
  repeat (any_goals (go_big_quiet_step ((go_at_call 20; with_reducible exact CT.out _ _))))
  refine wpQuiet_nil ?_
  intro _ hw'
  obtain ⟨⟨dq, osq⟩, hw''⟩ := hw'
  subst hw''
  replace hb := hb.trans ((below_regrown _ dq osq).mono hb.size)
  clear e0 e1 CT tid tS tr
  have HC4 := Lib.hid (HC3.out.keep hb)
  have HB4 := Lib.hid (HB3.out.trans (hb.mono HB3.out.size))
  clear hb HC3 HB3
  generalize grow (redrawn w3 dq) osq = w4 at HC4 HB4 ⊢
  go_wp2_with fail
  go_loopw [11] (fun ii wr => ∃ k : Nat, k ≤ 56 ∧ ii = .int .i64 k ∧ Hid (Below w.heap.size w wr) ∧ Hid (Below w4.heap.size w4 wr)) (fun ii _ => 56 - (intOf ii).toNat)
  case atStart => exact ⟨0, by omega, rfl, HB4, Lib.hid (Below.refl _ _)⟩
  case round =>
    obtain ⟨k, hk, rfl, HB, HBr⟩ := hrel
    by_cases hlt : k < 56
    · have d1 : decide ((k : Int) < 56) = true := decide_eq_true (by omega)
      have HV := Lib.hid (show atV (k : Int) = cmdAt k from RefTab.atV_in (by omega) (by omega))
      obtain ⟨D, hD⟩ : ∃ D, D = cmdAt k := ⟨_, rfl⟩
      obtain ⟨S5, hS5⟩ : ∃ S : ByteArray, S = ⟨D.name.toArray⟩ := ⟨_, rfl⟩
      obtain ⟨r5, hr5⟩ : ∃ r, r = D.ar := ⟨_, rfl⟩
      obtain ⟨g5, hg5⟩ : ∃ g : Int, g = (D.ct : Int) := ⟨_, rfl⟩
      have HA5 := Lib.hid (show aggV (atV (k : Int)) = .agg #[.string S5, .int .i64 r5, .int .u16 g5] by rw [HV.out, ← hD, hS5, hr5, hg5]; rfl)
      have C5 := Lib.hid (CA.out (k : Int) wr (by omega) (by omega))
      rw [HA5.out] at C5
      have HNe := Lib.hid (fun (h : k ≠ id) => show (S5.toList == S.toList) = false by
        rw [ByteArray.toList_eq, ByteArray.toList_eq, HSd.out, hS5, hD, beq_eq_false_iff_ne]
        exact HAp.out k hlt h)
      clear hD hS5 hr5 hg5 HV HA5
      go_wp2_with fail
      refine C5.out.mono ?_
      rintro e w5 ⟨rfl, hb5⟩
      have hbw := HB.out.trans (hb5.mono HB.out.size)
      have hbr := HBr.out.trans (hb5.mono HBr.out.size)
      obtain ⟨W5, hW5⟩ : ∃ W, W = w5.alloc (.cells #[.string S5, .int .i64 r5, .int .u16 g5] 25) := ⟨_, rfl⟩
      obtain ⟨b5, hb5'⟩ : ∃ k, k = w5.heap.size := ⟨_, rfl⟩
      have HC5 := Lib.hid (cmd_cells w5 S5 r5 g5 W5 b5 hW5 hb5')
      have HB5 := Lib.hid (show Below w.heap.size w W5 by rw [hW5]; exact hbw.alloc hbw.size _)
      have HBr5 := Lib.hid (show Below w4.heap.size w4 W5 by rw [hW5]; exact hbr.alloc hbr.size _)
      have HC4k := Lib.hid (HC4.out.keep HBr5.out)
      obtain ⟨-, k5, -, -⟩ := HC5.out
      obtain ⟨-, k4, -, -⟩ := HC4k.out
      clear hb5 hbw hbr C5 HB HBr
      go_upto_region 11 with fail
      rw [← hW5, ← hb5']
      clear hW5 hb5'
      by_cases hkid : k = id
      · have tk : ((k : Int) != (id : Int)) = false := by rw [hkid]; exact bne_self_eq_false _
        clear hkid
        go_wp2_with fail
        go_roundw
        case rel => exact ⟨k + 1, by omega, by go_num, HB5, HBr5⟩
        case measure => simp [intOf]; omega
      · have tk : ((k : Int) != (id : Int)) = true := by rw [bne_iff_ne]; omega
        have tn := HNe.out hkid
        clear hkid
        go_wp2_with fail
        go_roundw
        case rel => exact ⟨k + 1, by omega, by go_num, HB5, HBr5⟩
        case measure => simp [intOf]; omega
    · have d1 : decide ((k : Int) < 56) = false := decide_eq_false (by omega)
      have HC6 := Lib.hid (HC4.out.keep HBr.out)
      clear HBr HC4 HB4 HAp hk CA
      go_wp2_with fail
      refine (cats_any _).mono ?_
      rintro e w6 ⟨b6, o6, c6, rfl, hs6, hb6⟩
      have HC7 := Lib.hid (HC6.out.keep hb6)
      have HB7 := Lib.hid (HB.out.trans (hb6.mono HB.out.size))
      have HS6 := Lib.hid hs6
      clear hb6 hs6 HC6 HB
      go_wp2_with fail
      go_loopw [15] (fun ii wr => ∃ k : Nat, k ≤ 12 ∧ ii = .int .i64 k ∧ Hid (Below w.heap.size w wr) ∧ Hid (Below w6.heap.size w6 wr)) (fun ii _ => 12 - (intOf ii).toNat)
      case atStart => exact ⟨0, by omega, rfl, HB7, Lib.hid (Below.refl _ _)⟩
      case round =>
        obtain ⟨j, hj, rfl, HB, HBr⟩ := hrel
        by_cases hlt : j < 12
        · have d2 : decide ((j : Int) < 12) = true := decide_eq_true (by omega)
          obtain ⟨Z, hZd, hZz, hbl, hu⟩ := cat_cell (HS6.out.keep HBr.out) j hlt
          have CC := Lib.hid (cat_any Z wr (by omega))
          rw [hZd, (cat_at j hlt).1, (cat_at j hlt).2] at CC
          have hmk := mk_lt j
          have hsame := HBs.out j hlt
          obtain ⟨M, hM⟩ : ∃ M, M = mk j := ⟨_, rfl⟩
          rw [← hM] at CC hmk hsame
          have ha := and1 M id hmk
          have hb16 := bit16 gg j (by omega)
          rw [hsame] at ha
          obtain ⟨q, hq⟩ : ∃ q, q = gg / 2 ^ j % 2 := ⟨_, rfl⟩
          rw [← hq] at ha hb16
          have hq2 : q < 2 := by rw [hq]; exact Nat.mod_lt _ (by decide)
          have tq : ((q : Int) != (q : Int)) = false := bne_self_eq_false _
          clear hZd hM hsame hq
          go_wp2_with fail
          refine CC.out.mono ?_
          rintro e w8 ⟨rfl, hb8⟩
          have HB8 := Lib.hid (HB.out.trans (hb8.mono HB.out.size))
          have HBr8 := Lib.hid (HBr.out.trans (hb8.mono HBr.out.size))
          obtain ⟨-, -, -, k2⟩ := (HC7.out.keep HBr8.out)
          clear hb8 CC HB HBr hu
          go_wp2_with fail
          go_quiet (fail)
          have hbq := (HB8.out).trans (show Below w.heap.size w8 (w8.drewN nq) from ⟨rfl, rfl, rfl, Nat.le_refl _, fun _ _ => rfl⟩)
          have hbr := (HBr8.out).trans (show Below w6.heap.size w8 (w8.drewN nq) from ⟨rfl, rfl, rfl, Nat.le_refl _, fun _ _ => rfl⟩)
          clear k2
          generalize w8.drewN nq = wq at hbq hbr ⊢
          have HBq := Lib.hid hbq
          have HBrq := Lib.hid hbr
          clear hbq hbr
          go_wp2_with fail
          go_roundw
          case rel => exact ⟨j + 1, by omega, by go_num, HBq, HBrq⟩
          case measure => simp [intOf]; omega
        · have d2 : decide ((j : Int) < 12) = false := decide_eq_false (by omega)
          have CC := Lib.hid (cat_any ⟨#[97, 108, 108]⟩ wr (by decide))
          rw [show (⟨#[97, 108, 108]⟩ : ByteArray).data.toList = [97, 108, 108] from rfl, cat_whole.1, cat_whole.2] at CC
          have HC8 := Lib.hid (HC7.out.keep HBr.out)
          clear HBr HC7 HS6 HBs hj
          go_wp2_with fail
          refine CC.out.mono ?_
          rintro e w9 ⟨rfl, hb9⟩
          have HC9 := Lib.hid (HC8.out.keep hb9)
          have HB9 := Lib.hid (HB.out.trans (hb9.mono HB.out.size))
          obtain ⟨-, -, k1, -⟩ := HC9.out
          clear hb9 CC HC8 HB
          go_upto_region 24 with fail
          obtain ⟨L, hL⟩ : ∃ L : Int, max r (-r) = L := ⟨_, rfl⟩
          rw [hL]
          have hL1 : 1 ≤ L := by omega
          have hL4 : L ≤ 4 := by omega
          have f1 : fitsB (id : Int) L = true := by
            rw [HFr.out]
            split
            · exact decide_eq_true (by omega)
            · exact decide_eq_true (by omega)
          have f2 : fitsB (id : Int) (L - 1) = false := by
            rw [HFr.out]
            split
            · exact decide_eq_false (by omega)
            · exact decide_eq_false (by omega)
          have f3 : fitsB (id : Int) (L + 1 + (m : Int)) = decide (r < 0) := by
            rw [HFr.out]
            split
            · rename_i h
              rw [decide_eq_true h]
              exact decide_eq_true (by omega)
            · rename_i h
              rw [decide_eq_false h]
              exact decide_eq_false (by omega)
          obtain ⟨bn, hbn⟩ : ∃ bn, decide (r < 0) = bn := ⟨_, rfl⟩
          rw [hbn] at f3
          have P1 := Lib.hid (fun dd os => Calls.regrown_of (show Calls Try.prog 18 #[.int .i64 (id : Int), .int .i64 L] (grow (redrawn w9 dd) os) (fun e w' => e = .returned (.bool true) ∧ Below (grow (redrawn w9 dd) os).heap.size (grow (redrawn w9 dd) os) w') from by
            rw [← f1]
            exact fits_any (id : Int) L _ (by omega) (by omega) (by omega) (by omega)))
          have P2 := Lib.hid (fun dd os => Calls.regrown_of (show Calls Try.prog 18 #[.int .i64 (id : Int), .int .i64 (L - 1)] (grow (redrawn w9 dd) os) (fun e w' => e = .returned (.bool false) ∧ Below (grow (redrawn w9 dd) os).heap.size (grow (redrawn w9 dd) os) w') from by
            rw [← f2]
            exact fits_any (id : Int) (L - 1) _ (by omega) (by omega) (by omega) (by omega)))
          have P3 := Lib.hid (fun dd os => Calls.regrown_of (show Calls Try.prog 18 #[.int .i64 (id : Int), .int .i64 (L + 1 + (m : Int))] (grow (redrawn w9 dd) os) (fun e w' => e = .returned (.bool bn) ∧ Below (grow (redrawn w9 dd) os).heap.size (grow (redrawn w9 dd) os) w') from by
            rw [← f3]
            exact fits_any (id : Int) (L + 1 + (m : Int)) _ (by omega) (by omega) (by omega) (by omega)))
          have e1 := fun dd os => cell_regrown k1 dd os
          have hb := HB9.out
          have tb : (bn == bn) = true := beq_self_eq_true _
          clear f1 f2 f3 hL k1 HC9 HB9
          refine wp_region_quiet_below (by kernel_rfl) (by kernel_rfl) ?_
          repeat (any_goals (go_big_quiet_step ((go_at_call 18; first | (with_reducible exact P1.out _ _) | (with_reducible exact P2.out _ _) | (with_reducible exact P3.out _ _)))))
          refine wpQuiet_nil ?_
          intro _ hw'
          obtain ⟨⟨dq, osq⟩, hw''⟩ := hw'
          subst hw''
          replace hb := hb.trans ((below_regrown _ dq osq).mono hb.size)
          clear e1 P1 P2 P3
          go_wp2_with fail
          go_ret
          exact ⟨rfl, hb⟩

theorem walk (n m : Int) (w : World) (h0 : 0 ≤ n) (h1 : n ≤ 255) (h2 : 0 ≤ m) (h3 : m ≤ 65535) :
    Calls Try.prog 4 #[.int .u8 n, .int .u16 m] w fun e w' => e = .returned (.bool true) ∧ Below w.heap.size w w' := by
  obtain ⟨a, rfl⟩ := Int.eq_ofNat_of_zero_le h0
  obtain ⟨b, rfl⟩ := Int.eq_ofNat_of_zero_le h2
  exact walk0 a b w (by omega) (by omega)

end Go.Proofs.Ythmkcdlchkdehaa.tableEach
