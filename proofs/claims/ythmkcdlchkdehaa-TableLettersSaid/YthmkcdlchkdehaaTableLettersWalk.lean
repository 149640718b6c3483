/-
  TableLetters: a command is found in whichever letters its name is told, and no other text is one; ids beyond the last one have no command.
-/
import Derived.Test.YthmkcdlchkdehaaTableLaw
import Derived.Test.YthmkcdlchkdehaaTableMath2
import Derived.Test.YthmkcdlchkdehaaLowNum
import Derived.Laws.BitsLemmas
import Derived.Lib.QuietBelow
import Derived.BigQuiet
import Derived.Deep.QuietTactic
import Derived.Deep.DeepCutAuto
namespace Go.Proofs.Ythmkcdlchkdehaa.tableLetters
open Go.RowKit Kit TableMath Low StrT TableM TableL
open Go.Sort (grow)
set_option linter.unusedVariables false
set_option maxRecDepth 100000
-- ASKS: 

def CmdAt (w : World) (b : Nat) (S : ByteArray) (r g : Int) : Prop := b < w.heap.size ∧ w.cell? ⟨b, 0, none⟩ = some (.string S) ∧ w.cell? ⟨b, 1, none⟩ = some (.int .i64 r) ∧ w.cell? ⟨b, 2, none⟩ = some (.int .u16 g)
theorem CmdAt.keep {w w' : World} {b : Nat} {S : ByteArray} {r g : Int} (h : CmdAt w b S r g) (hb : Below w.heap.size w w') : CmdAt w' b S r g :=
  ⟨Nat.lt_of_lt_of_le h.1 hb.size, by rw [hb.cell (p := ⟨b, 0, none⟩) h.1]; exact h.2.1, by rw [hb.cell (p := ⟨b, 1, none⟩) h.1]; exact h.2.2.1, by rw [hb.cell (p := ⟨b, 2, none⟩) h.1]; exact h.2.2.2⟩
theorem cmd_cells (w : World) (S : ByteArray) (r g : Int) (W : World) (k : Nat) (hW : W = w.alloc (.cells #[.string S, .int .i64 r, .int .u16 g] 25)) (hk : k = w.heap.size) : CmdAt W k S r g := by
  subst hW hk
  have hh := heap_alloc_last w (.cells #[.string S, .int .i64 r, .int .u16 g] 25)
  refine ⟨by simp, ?_, ?_, ?_⟩ <;> rw [cell_of_row _ _ _ _ _ _ hh] <;> rfl
theorem two_cells (w : World) (a b : Int) (t : TypeId) (W : World) (hW : W = w.alloc (.cells #[.int .u8 a, .int .u8 b] t)) : W.cell? ⟨w.heap.size, 0, none⟩ = some (.int .u8 a) ∧ W.cell? ⟨w.heap.size, 1, none⟩ = some (.int .u8 b) ∧ w.heap.size < W.heap.size := by
  subst hW
  have hh := heap_alloc_last w (.cells #[.int .u8 a, .int .u8 b] t)
  refine ⟨?_, ?_, by simp⟩ <;> rw [cell_of_row _ _ _ _ _ _ hh] <;> rfl
theorem bit16 (g k : Nat) (hg : g ≤ 65535) : bits .and .u16 ((g : Int) / 2 ^ k) 1 = ((g / 2 ^ k % 2 : Nat) : Int) := by
  have e : (g : Int) / 2 ^ k = ((g / 2 ^ k : Nat) : Int) := by rw [Int.natCast_ediv, Int.natCast_pow]; rfl
  have h := Nat.div_le_self g (2 ^ k)
  rw [e]
  have := bits_mask .u16 16 (by decide) (fun n h0 h1 => by
    have : IntKind.u16.wrap n = n % 65536 := by simp [IntKind.wrap, IntKind.bits, IntKind.signed]
    rw [this]; omega) 1 (by decide) ((g / 2 ^ k : Nat) : Int) (Int.natCast_nonneg _) (by omega)
  simpa using this

set_option maxHeartbeats 4000000 in
theorem walk0 (n m g : Nat) (s : ByteArray) (w : World) (hn : n ≤ 255) (hm : m ≤ 255) (hg : g ≤ 65535) (hs : s.size ≤ 140737488351232) :
    Calls Try.prog 6 #[.agg #[.int .u8 (n : Int), .int .u8 (m : Int)], .int .u16 (g : Int), .string s] w fun e w' => e = .returned (.bool true) ∧ Below w.heap.size w w' := by
  obtain ⟨w0, hw0⟩ : ∃ W, W = w.alloc (.cells #[.int .u8 (n : Int), .int .u8 (m : Int)] 41) := ⟨_, rfl⟩
  obtain ⟨c0, c1, hlt⟩ := two_cells w n m _ w0 hw0
  have HB0 := Lib.hid (show Below w.heap.size w w0 by rw [hw0]; exact Kit.below1 _ _)
  have C0 := Lib.hid (shown_any w0)
  have CA := Lib.hid (fun id W h0 h1 => at_any id W h0 h1)
  have CF := Lib.hid (fun S W hz => find_any S W hz)
  obtain ⟨id, hid⟩ : ∃ id : Nat, (n : Int) % 56 = (id : Int) := ⟨n % 56, by omega⟩
  have hid56 : id < 56 := by omega
  obtain ⟨hne, hnl, hlet⟩ := name_letters id hid56
  have hfn := find_name id hid56
  have HV := Lib.hid (show atV (id : Int) = cmdAt id from RefTab.atV_in (by omega) (by omega))
  obtain ⟨C, hC⟩ : ∃ C, C = cmdAt id := ⟨_, rfl⟩
  rw [← hC] at hne hnl hlet hfn HV
  obtain ⟨N, hN⟩ : ∃ N, N = C.name := ⟨_, rfl⟩
  obtain ⟨S, hS⟩ : ∃ S : ByteArray, S = ⟨N.toArray⟩ := ⟨_, rfl⟩
  obtain ⟨r, hr⟩ : ∃ r, r = C.ar := ⟨_, rfl⟩
  obtain ⟨gg, hgg⟩ : ∃ gg : Int, gg = (C.ct : Int) := ⟨_, rfl⟩
  have HAg := Lib.hid (show aggV (atV (id : Int)) = .agg #[.string S, .int .i64 r, .int .u16 gg] by rw [HV.out, hS, hr, hgg, hN]; rfl)
  rw [← hN] at hne hnl hlet hfn
  have HSd := Lib.hid (show S.data.toList = N by rw [hS])
  have HLet := Lib.hid hlet
  have HFn := Lib.hid hfn
  have HNl := Lib.hid hnl
  clear hC hN hS hr hgg hlet hfn hne hnl HV
  go_enter Try.func6, Try.ntmps6
  go_wp2_with fail
  rw [← hw0]
  clear hw0
  refine C0.out.mono ?_
  rintro e w1 ⟨rfl, hb1⟩
  have c2 : w1.cell? ⟨w.heap.size, 0, none⟩ = some (.int .u8 (n : Int)) := by rw [hb1.cell (p := ⟨w.heap.size, 0, none⟩) hlt]; exact c0
  have c3 : w1.cell? ⟨w.heap.size, 1, none⟩ = some (.int .u8 (m : Int)) := by rw [hb1.cell (p := ⟨w.heap.size, 1, none⟩) hlt]; exact c1
  have HB1 := Lib.hid (HB0.out.trans (hb1.mono HB0.out.size))
  clear hb1 C0 c0 c1 HB0 hlt
  go_wp2_with fail
  refine (show Calls _ _ _ _ _ from CA.out (id : Int) w1 (by omega) (by omega)).mono ?_
  rintro e w2 ⟨rfl, hb2⟩
  rw [HAg.out]
  obtain ⟨W2, hW2⟩ : ∃ W, W = w2.alloc (.cells #[.string S, .int .i64 r, .int .u16 gg] 25) := ⟨_, rfl⟩
  obtain ⟨g2, hg2⟩ : ∃ k, k = w2.heap.size := ⟨_, rfl⟩
  have hbw := HB1.out.trans (hb2.mono HB1.out.size)
  have HC2 := Lib.hid (cmd_cells w2 S r gg W2 g2 hW2 hg2)
  have HB2 := Lib.hid (show Below w.heap.size w W2 by rw [hW2]; exact hbw.alloc hbw.size _)
  obtain ⟨-, k0, -, -⟩ := HC2.out
  clear hb2 hbw c2 c3
  go_upto_region 6 with fail
  rw [← hW2, ← hg2]
  clear hW2 hg2
  have hcv := Lib.run_convert_string_bytes (P := Try.prog) W2 9 42 5 S Try.underlying9 Try.underlying42 Try.underlying5
  have HR3 := Lib.hid (bytesWorld_row W2 5 S)
  have HB3 := Lib.hid (HB2.out.trans ((bytesWorld_below W2 5 S).mono HB2.out.size))
  have hgB := HB2.out.size
  obtain ⟨W3, hW3⟩ : ∃ W, W = Lib.bytesWorld W2 5 S := ⟨_, rfl⟩
  obtain ⟨gB, hgB2⟩ : ∃ k, k = W2.heap.size := ⟨_, rfl⟩
  obtain ⟨cB, hcB⟩ : ∃ k, k = grownCap W2 S.size 0 5 := ⟨_, rfl⟩
  obtain ⟨ln, hln⟩ : ∃ k, k = S.size := ⟨_, rfl⟩
  rw [← hln] at hcB
  rw [← hW3, ← hgB2, ← hln, ← hcB] at hcv
  rw [← hW3, ← hgB2, HSd.out] at HR3
  rw [← hW3] at HB3
  rw [← hgB2] at hgB
  have HLn := Lib.hid (show N.length = ln by rw [hln, ← HSd.out]; simp)
  have HM0 := Lib.hid (Mixed.new HLet.out)
  have hl20 : ln ≤ 20 := by
    have h1 := HNl.out
    rwa [HLn.out] at h1
  clear hW3 hgB2 hcB hln HC2 HB2 HAg
  go_wp2_with fail
  go_loopw [14] (fun ii wr => ∃ (k : Nat) (R : List UInt8), k ≤ ln ∧ ii = .int .i64 k ∧ Hid (Below w.heap.size w wr) ∧ Hid (Row8 wr gB R) ∧ Hid (Mixed N R k)) (fun ii _ => ln - (intOf ii).toNat)
  case atStart => exact ⟨0, N, Nat.zero_le _, rfl, HB3, HR3, HM0⟩
  case round =>
    obtain ⟨k, R, hk, rfl, HB, HR, HMx⟩ := hrel
    clear HB3 HR3 HM0 hcv k0
    by_cases hkl : k < ln
    · have d1 : decide ((k : Int) < (ln : Int)) = true := decide_eq_true (by omega)
      have hkN : k < N.length := by rw [HLn.out]; exact hkl
      have hkR : k < R.length := by rw [HMx.out.len]; exact hkN
      obtain ⟨c, hc⟩ : ∃ c, c = N[k] := ⟨_, rfl⟩
      have hRk : R[k] = c := by
        have := HMx.out.rest k (Nat.le_refl _)
        rw [List.getElem?_eq_getElem hkR, List.getElem?_eq_getElem hkN] at this
        injection this with this
        rw [this, hc]
      have hcell := HR.out.at_ k hkR
      rw [hRk] at hcell
      have hfrz := HR.out.frz k hkR
      have hcl := HLet.out c (by rw [hc]; exact List.getElem_mem hkN)
      have hbit := bit16 g (min k 16) hg
      obtain ⟨q, hq⟩ : ∃ q, q = g / 2 ^ min k 16 % 2 := ⟨_, rfl⟩
      rw [← hq] at hbit
      have hlb := low_of_big c hcl
      have HBig := Lib.hid (show Mixed N (R.set k (c - 32)) (k + 1) by
        have := HMx.out.big hkN (by rw [← hc]; exact hcl)
        rwa [← hc] at this)
      have HSk := Lib.hid HMx.out.skip
      have HRs := Lib.hid (show Row8 (wr.setCell ⟨gB, k, none⟩ (.int .u8 ((c.toNat : Int) - 32))) gB (R.set k (c - 32)) by
        have := HR.out.set k hkR (c - 32)
        rwa [hlb.2] at this)
      have HBs := Lib.hid (show Below w.heap.size w (wr.setCell ⟨gB, k, none⟩ (.int .u8 ((c.toNat : Int) - 32))) from HB.out.setCell hgB _)
      obtain ⟨hc97, hc122⟩ := hcl
      have hc8 : (97 : Int) ≤ (c.toNat : Int) ∧ (c.toNat : Int) ≤ 122 := by omega
      clear hRk hq hc hlb
      by_cases hq1 : q = 1
      · have hb1 : ((q : Int) == 1) = true := by rw [hq1]; rfl
        clear hq1
        go_wp2_with fail
        go_roundw
        case rel => exact ⟨k + 1, R.set k (c - 32), by omega, by go_num, HBs, HRs, HBig⟩
        case measure => simp [intOf]; omega
      · have hb1 : ((q : Int) == 1) = false := by rw [beq_eq_false_iff_ne]; omega
        clear hq1
        go_wp2_with fail
        go_roundw
        case rel => exact ⟨k + 1, R, by omega, by go_num, HB, HR, HSk⟩
        case measure => simp [intOf]; omega
    · have d1 : decide ((k : Int) < (ln : Int)) = false := decide_eq_false (by omega)
      have hRl : R.length = ln := by rw [HMx.out.len, HLn.out]
      have hback := fun cap => run_row_string (P := Try.prog) wr 42 5 9 Try.underlying42 Try.underlying5 Try.underlying9 gB _ HR.out ln cap hRl.symm
      obtain ⟨BT, hBT⟩ : ∃ BT : ByteArray, BT = ⟨R.toArray⟩ := ⟨_, rfl⟩
      rw [← hBT] at hback
      have hBs : BT.size ≤ 20 := by
        have h1 := HNl.out
        rw [HLn.out] at h1
        rw [hBT]
        show R.toArray.size ≤ 20
        simp
        omega
      have CB := Lib.hid (show Calls Try.prog 11 #[.string BT] wr (fun e w' => e = .returned (.tuple #[.int .i64 (id : Int), .bool true]) ∧ Below wr.heap.size wr w') from by
        have h := CF.out BT wr (by omega)
        rw [show BT.data.toList = R by rw [hBT], HMx.out.low, HFn.out.1, HFn.out.2] at h
        exact h)
      obtain ⟨T, hT⟩ : ∃ T, T = s.extract 0 (min s.size 20) := ⟨_, rfl⟩
      have hTs : T.size ≤ 20 := by rw [hT, ByteArray.size_extract]; omega
      have s1 : ∀ W, (Instr.slice 9 (.string s) none (some (.int .i64 (min (s.size : Int) 20))) none).run Try.prog W = .ok (.string T) W := fun W => by
        have h := run_slice_string_h (P := Try.prog) W 9 s Try.underlying9 .i64 (min (s.size : Int) 20) (by omega) (by omega)
        rw [show (min (s.size : Int) 20).toNat = min s.size 20 by omega, ← hT] at h
        exact h
      clear hRl hBT hT HR HMx hk
      go_wp2_with fail
      refine CB.out.mono ?_
      rintro e w4 ⟨rfl, hb4⟩
      have HB4 := Lib.hid (HB.out.trans (hb4.mono HB.out.size))
      clear hb4 CB HB hback
      have CT := Lib.hid (CF.out T w4 (by omega))
      have CLo := Lib.hid (fun W => LowN.lower_any T W (by unfold maxLen; omega))
      obtain ⟨X, hX⟩ : ∃ X, X = lowL T.data.toList := ⟨_, rfl⟩
      rw [← hX] at CT CLo
      obtain ⟨LT, hLT⟩ : ∃ LT : ByteArray, LT = ⟨X.toArray⟩ := ⟨_, rfl⟩
      rw [← hLT] at CLo
      have CP := Lib.hid (fun W => show Calls Try.prog 9 #[.int .i64 (56 + (n : Int))] W (fun e w' => e = .returned (.tuple #[.agg #[.string ⟨#[]⟩, .int .i64 0, .int .u16 0], .bool false]) ∧ Below W.heap.size W w') from (CA.out (56 + (n : Int)) W (by omega) (by omega)).mono (by
        rintro e w' ⟨he, hb⟩
        rw [at_beyond (by omega), RefTab.atV_out (by omega)] at he
        exact ⟨he, hb⟩))
      have CQ1 := Lib.hid (fun W => show Calls Try.prog 18 #[.int .i64 (56 + (n : Int)), .int .i64 ((m : Int) % 21)] W (fun e w' => e = .returned (.bool false) ∧ Below W.heap.size W w') from (fits_any (56 + (n : Int)) ((m : Int) % 21) W (by omega) (by omega) (by omega) (by omega)).mono (by
        rintro e w' ⟨he, hb⟩
        rw [RefTab.fits_out (at_beyond (by omega))] at he
        exact ⟨he, hb⟩))
      have CQ2 := Lib.hid (fun W => show Calls Try.prog 18 #[.int .i64 (-1), .int .i64 2] W (fun e w' => e = .returned (.bool false) ∧ Below W.heap.size W w') from (fits_any (-1) 2 W (by decide) (by decide) (by decide) (by decide)).mono (by
        rintro e w' ⟨he, hb⟩
        rw [RefTab.fits_out (at_beyond (by decide))] at he
        exact ⟨he, hb⟩))
      by_cases hf : findK X < 56
      · have hfv := findV_at hf rfl
        obtain ⟨kk, hkk⟩ : ∃ kk, kk = findK X := ⟨_, rfl⟩
        have hnm := found_name hf
        have hle := (name_letters (findK X) hf).1
        rw [hnm] at hle
        rw [← hkk] at hfv hnm hf
        rw [hfv.1, hfv.2] at CT
        have HV := Lib.hid (show atV (kk : Int) = cmdAt kk from RefTab.atV_in (by omega) (by omega))
        obtain ⟨D, hD⟩ : ∃ D, D = cmdAt kk := ⟨_, rfl⟩
        rw [← hD] at hnm HV
        obtain ⟨r5, hr5⟩ : ∃ r, r = D.ar := ⟨_, rfl⟩
        obtain ⟨g5, hg5⟩ : ∃ gg : Int, gg = (D.ct : Int) := ⟨_, rfl⟩
        have HAg := Lib.hid (show aggV (atV (kk : Int)) = .agg #[.string LT, .int .i64 r5, .int .u16 g5] by rw [HV.out, hLT, hr5, hg5, ← hnm]; rfl)
        have hemp : LT.toList.isEmpty = false := by
          rw [ByteArray.toList_eq, hLT]
          cases X with
          | nil => exact absurd rfl hle
          | cons a b => rfl
        have heq : (LT.toList == LT.toList) = true := beq_self_eq_true _
        have CA5 := Lib.hid (fun W => CA.out (kk : Int) W (by omega) (by omega))
        rw [HAg.out] at CA5
        clear hX hLT hfv hnm hle hD hr5 hg5 HV HAg hkk
        go_wp2_with fail
        refine CT.out.mono ?_
        rintro e w5 ⟨rfl, hb5⟩
        have HB5 := Lib.hid (HB4.out.trans (hb5.mono HB4.out.size))
        clear hb5 CT HB4
        go_wp2_with fail
        refine (CA5.out _).mono ?_
        rintro e w6 ⟨rfl, hb6⟩
        have hbw := HB5.out.trans (hb6.mono HB5.out.size)
        obtain ⟨W6, hW6⟩ : ∃ W, W = w6.alloc (.cells #[.string LT, .int .i64 r5, .int .u16 g5] 25) := ⟨_, rfl⟩
        obtain ⟨g6, hg6⟩ : ∃ k, k = w6.heap.size := ⟨_, rfl⟩
        have HC6 := Lib.hid (cmd_cells w6 LT r5 g5 W6 g6 hW6 hg6)
        have HB6 := Lib.hid (show Below w.heap.size w W6 by rw [hW6]; exact hbw.alloc hbw.size _)
        clear hb6 hbw CA5 HB5
        go_wp2_with fail
        rw [← hW6, ← hg6]
        clear hW6 hg6
        refine (CP.out _).mono ?_
        rintro e w7 ⟨rfl, hb7⟩
        have HC7 := Lib.hid (HC6.out.keep hb7)
        have HB7 := Lib.hid (HB6.out.trans (hb7.mono HB6.out.size))
        clear hb7 CP HC6 HB6
        have hbw := HB7.out
        obtain ⟨W7, hW7⟩ : ∃ W, W = w7.alloc (.cells #[.string ⟨#[]⟩, .int .i64 0, .int .u16 0] 25) := ⟨_, rfl⟩
        have HC8 := Lib.hid (show CmdAt W7 g6 LT r5 g5 by rw [hW7]; exact HC7.out.keep (Kit.below1 _ _))
        have hb : Below w.heap.size w W7 := by rw [hW7]; exact hbw.alloc hbw.size _
        obtain ⟨-, k6, -, -⟩ := HC8.out
        have CL := Lib.hid (fun dd os => Calls.regrown_of (CLo.out (grow (redrawn W7 dd) os)))
        have CR1 := Lib.hid (fun dd os => Calls.regrown_of (CQ1.out (grow (redrawn W7 dd) os)))
        have CR2 := Lib.hid (fun dd os => Calls.regrown_of (CQ2.out (grow (redrawn W7 dd) os)))
        have e6 := fun dd os => cell_regrown k6 dd os
        clear hbw HB7 HC7 HC8 CLo CQ1 CQ2
        go_upto_region 17 with fail
        rw [← hW7]
        clear hW7 k6
        have tid : ((id : Int) == (id : Int)) = true := beq_self_eq_true _
        refine wp_region_quiet_below (by kernel_rfl) (by kernel_rfl) ?_
        repeat (any_goals (go_big_quiet_step ((first | (go_at_call 20; with_reducible exact CL.out _ _) | (go_at_call 18; first | (with_reducible exact CR1.out _ _) | (with_reducible exact CR2.out _ _))))))
        refine wpQuiet_nil ?_
        intro _ hw'
        obtain ⟨⟨dq, osq⟩, hw''⟩ := hw'
        subst hw''
        replace hb := hb.trans ((below_regrown _ dq osq).mono hb.size)
        clear e6 CL CR1 CR2
        go_wp2_with fail
        go_ret
        exact ⟨rfl, hb⟩
      · have hfv := findV_none (s := X) (by omega)
        rw [hfv.1, hfv.2] at CT
        have CA5 := Lib.hid (fun W => show Calls Try.prog 9 #[.int .i64 (-1)] W (fun e w' => e = .returned (.tuple #[.agg #[.string ⟨#[]⟩, .int .i64 0, .int .u16 0], .bool false]) ∧ Below W.heap.size W w') from (CA.out (-1) W (by decide) (by decide)).mono (by
          rintro e w' ⟨he, hb⟩
          rw [at_beyond (by decide), RefTab.atV_out (by decide)] at he
          exact ⟨he, hb⟩))
        have hemp : (⟨#[]⟩ : ByteArray).toList.isEmpty = true := by rw [ByteArray.toList_eq]; rfl
        clear hX hLT hfv hf
        go_wp2_with fail
        refine CT.out.mono ?_
        rintro e w5 ⟨rfl, hb5⟩
        have HB5 := Lib.hid (HB4.out.trans (hb5.mono HB4.out.size))
        clear hb5 CT HB4
        go_wp2_with fail
        refine (CA5.out _).mono ?_
        rintro e w6 ⟨rfl, hb6⟩
        have hbw := HB5.out.trans (hb6.mono HB5.out.size)
        obtain ⟨W6, hW6⟩ : ∃ W, W = w6.alloc (.cells #[.string ⟨#[]⟩, .int .i64 0, .int .u16 0] 25) := ⟨_, rfl⟩
        obtain ⟨g6, hg6⟩ : ∃ k, k = w6.heap.size := ⟨_, rfl⟩
        have HC6 := Lib.hid (cmd_cells w6 ⟨#[]⟩ 0 0 W6 g6 hW6 hg6)
        have HB6 := Lib.hid (show Below w.heap.size w W6 by rw [hW6]; exact hbw.alloc hbw.size _)
        clear hb6 hbw CA5 HB5
        go_wp2_with fail
        rw [← hW6, ← hg6]
        clear hW6 hg6
        refine (CP.out _).mono ?_
        rintro e w7 ⟨rfl, hb7⟩
        have HC7 := Lib.hid (HC6.out.keep hb7)
        have HB7 := Lib.hid (HB6.out.trans (hb7.mono HB6.out.size))
        clear hb7 CP HC6 HB6
        have hbw := HB7.out
        obtain ⟨W7, hW7⟩ : ∃ W, W = w7.alloc (.cells #[.string ⟨#[]⟩, .int .i64 0, .int .u16 0] 25) := ⟨_, rfl⟩
        have HC8 := Lib.hid (show CmdAt W7 g6 ⟨#[]⟩ 0 0 by rw [hW7]; exact HC7.out.keep (Kit.below1 _ _))
        have hb : Below w.heap.size w W7 := by rw [hW7]; exact hbw.alloc hbw.size _
        obtain ⟨-, k6, -, -⟩ := HC8.out
        have CR1 := Lib.hid (fun dd os => Calls.regrown_of (CQ1.out (grow (redrawn W7 dd) os)))
        have CR2 := Lib.hid (fun dd os => Calls.regrown_of (CQ2.out (grow (redrawn W7 dd) os)))
        have e6 := fun dd os => cell_regrown k6 dd os
        clear hbw HB7 HC7 HC8 CLo CQ1 CQ2
        go_upto_region 17 with fail
        rw [← hW7]
        clear hW7 k6
        have tid : ((id : Int) == (id : Int)) = true := beq_self_eq_true _
        refine wp_region_quiet_below (by kernel_rfl) (by kernel_rfl) ?_
        repeat (any_goals (go_big_quiet_step ((go_at_call 18; first | (with_reducible exact CR1.out _ _) | (with_reducible exact CR2.out _ _)))))
        refine wpQuiet_nil ?_
        intro _ hw'
        obtain ⟨⟨dq, osq⟩, hw''⟩ := hw'
        subst hw''
        replace hb := hb.trans ((below_regrown _ dq osq).mono hb.size)
        clear e6 CR1 CR2
        go_wp2_with fail
        go_ret
        exact ⟨rfl, hb⟩

theorem walk (n m g : Int) (s : ByteArray) (w : World) (h0 : 0 ≤ n) (h1 : n ≤ 255) (h2 : 0 ≤ m) (h3 : m ≤ 255) (h4 : 0 ≤ g) (h5 : g ≤ 65535) (hs : s.size ≤ 140737488351232) :
    Calls Try.prog 6 #[.agg #[.int .u8 n, .int .u8 m], .int .u16 g, .string s] w fun e w' => e = .returned (.bool true) ∧ Below w.heap.size w w' := by
  obtain ⟨a, rfl⟩ := Int.eq_ofNat_of_zero_le h0
  obtain ⟨b, rfl⟩ := Int.eq_ofNat_of_zero_le h2
  obtain ⟨c, rfl⟩ := Int.eq_ofNat_of_zero_le h4
  exact walk0 a b c s w (by omega) (by omega) (by omega) hs

end Go.Proofs.Ythmkcdlchkdehaa.tableLetters
