/-
  TableAll: each command, its id, its arity, and each category's commands, are as the document says.
-/
import Derived.Test.YthmkcdlchkdehaaTableLaw
import Derived.Test.YthmkcdlchkdehaaStrSame
namespace Go.Proofs.Ythmkcdlchkdehaa.tableAll
open Go.RowKit Kit TableMath Low StrT TableM TableL
set_option linter.unusedVariables false
set_option maxRecDepth 100000
-- ASKS: 

def cutS (s : ByteArray) : ByteArray := if 40 < s.size then s.extract 0 40 else s
theorem cutS_size (s : ByteArray) : (cutS s).size ≤ 40 := by
  unfold cutS
  split
  · rw [ByteArray.size_extract]; omega
  · omega
/-- A command that lies in a block of its own. -/
def CmdAt (w : World) (b : Nat) (S : ByteArray) (r g : Int) : Prop := b < w.heap.size ∧ w.cell? ⟨b, 0, none⟩ = some (.string S) ∧ w.cell? ⟨b, 1, none⟩ = some (.int .i64 r) ∧ w.cell? ⟨b, 2, none⟩ = some (.int .u16 g)
theorem CmdAt.keep {w w' : World} {b : Nat} {S : ByteArray} {r g : Int} (h : CmdAt w b S r g) (hb : Below w.heap.size w w') : CmdAt w' b S r g :=
  ⟨Nat.lt_of_lt_of_le h.1 hb.size, by rw [hb.cell (p := ⟨b, 0, none⟩) h.1]; exact h.2.1, by rw [hb.cell (p := ⟨b, 1, none⟩) h.1]; exact h.2.2.1, by rw [hb.cell (p := ⟨b, 2, none⟩) h.1]; exact h.2.2.2⟩
theorem cmd_cells (w : World) (S : ByteArray) (r g : Int) (W : World) (k : Nat) (hW : W = w.alloc (.cells #[.string S, .int .i64 r, .int .u16 g] 25)) (hk : k = w.heap.size) : CmdAt W k S r g := by
  subst hW hk
  have hh := heap_alloc_last w (.cells #[.string S, .int .i64 r, .int .u16 g] 25)
  refine ⟨by simp, ?_, ?_, ?_⟩ <;> rw [cell_of_row _ _ _ _ _ _ hh] <;> rfl
set_option maxHeartbeats 4000000 in
theorem walk (id words : Int) (s : ByteArray) (w : World) (h0 : -9223372036854775808 ≤ id) (h1 : id ≤ 9223372036854775807) (h2 : -9223372036854775808 ≤ words) (h3 : words ≤ 9223372036854775807) (hs : s.size ≤ 140737488351232) :
    Calls Try.prog 3 #[.int .i64 id, .int .i64 words, .string s] w fun e w' => e = .returned (.bool true) ∧ Below w.heap.size w w' := by
  have C0 := Lib.hid (shown_any w)
  have CA := Lib.hid (fun W => at_any id W h0 h1)
  have CB := Lib.hid (fun W => RefTab.at_any id W h0 h1)
  obtain ⟨T, hT⟩ : ∃ T, T = cutS s := ⟨_, rfl⟩
  have hTs : T.size ≤ 40 := by rw [hT]; exact cutS_size s
  have hcut : 40 < s.size → T = s.extract 0 40 := fun h => by rw [hT]; exact if_pos h
  have hsame : ¬ 40 < s.size → T = s := fun h => by rw [hT]; exact if_neg h
  have CF := Lib.hid (fun W => find_any T W (by omega))
  have CG := Lib.hid (fun W => RefTab.find_any T W (by omega))
  have CX := Lib.hid (fun W => cat_any T W (by omega))
  have CY := Lib.hid (fun W => RefTab.cat_any T W)
  have CS := Lib.hid (fun W => cats_any W)
  have CR := Lib.hid (fun W => RefTab.cats_any W)
  have CP := Lib.hid (fun W => fits_any id words W h0 h1 h2 h3)
  have CQ := Lib.hid (fun W => RefTab.fits_any id words W h0 h1 h2 h3)
  obtain ⟨S, hS⟩ : ∃ S : ByteArray, S = ⟨(atV id).name.toArray⟩ := ⟨_, rfl⟩
  obtain ⟨r, hr⟩ : ∃ r, r = (atV id).ar := ⟨_, rfl⟩
  obtain ⟨g, hg⟩ : ∃ g : Int, g = ((atV id).ct : Int) := ⟨_, rfl⟩
  rw [show aggV (atV id) = .agg #[.string S, .int .i64 r, .int .u16 g] by rw [hS, hr, hg]; rfl] at CA CB
  obtain ⟨ab, hab⟩ : ∃ ab, ab = atB id := ⟨_, rfl⟩
  rw [← hab] at CA CB
  obtain ⟨fv, hfv⟩ : ∃ fv, fv = findV (lowL T.data.toList) := ⟨_, rfl⟩
  obtain ⟨fb, hfb⟩ : ∃ fb, fb = findB (lowL T.data.toList) := ⟨_, rfl⟩
  rw [← hfv, ← hfb] at CF CG
  obtain ⟨cv, hcv⟩ : ∃ cv : Int, cv = (catV T.data.toList : Int) := ⟨_, rfl⟩
  obtain ⟨cb, hcb⟩ : ∃ cb, cb = catB T.data.toList := ⟨_, rfl⟩
  rw [← hcv, ← hcb] at CX CY
  obtain ⟨pb, hpb⟩ : ∃ pb, pb = fitsB id words := ⟨_, rfl⟩
  rw [← hpb] at CP CQ
  clear hT hS hr hg hab hfv hfb hcv hcb hpb
  go_enter Try.func3, Try.ntmps3
  go_wp2_with fail
  refine C0.out.mono ?_
  rintro e w1 ⟨rfl, hb1⟩
  have HB1 := Lib.hid hb1
  clear hb1 C0
  by_cases h40 : 40 < s.size
  all_goals
    first
      | have h40' : 40 < s.size := h40
        have s1 : ∀ W, (Instr.slice 9 (.string s) none (some (.int .i64 40)) none).run Try.prog W = .ok (.string T) W := fun W => by
          have h := run_slice_string_h (P := Try.prog) W 9 s Try.underlying9 .i64 40 (by omega) (by omega)
          rw [show (40 : Int).toNat = 40 from rfl, ← hcut h40] at h
          exact h
        have d1 : (40 : Int) < (s.size : Int) := by omega
        clear hcut hsame h40'
      | have e := hsame h40
        subst e
        have d1 : ¬ ((40 : Int) < (T.size : Int)) := by omega
        clear hcut hsame
    go_wp2_with fail
    refine (CA.out _).mono ?_
    rintro e w2 ⟨rfl, hb2⟩
    have HB2 := Lib.hid (HB1.out.trans (hb2.mono HB1.out.size))
    obtain ⟨W2, hW2⟩ : ∃ W, W = w2.alloc (.cells #[.string S, .int .i64 r, .int .u16 g] 25) := ⟨_, rfl⟩
    obtain ⟨g2, hg2⟩ : ∃ k, k = w2.heap.size := ⟨_, rfl⟩
    have HC2 := Lib.hid (cmd_cells w2 S r g W2 g2 hW2 hg2)
    have HBw2 := Lib.hid (show Below w.heap.size w W2 by rw [hW2]; exact HB2.out.alloc HB2.out.size _)
    clear hb2 CA
    go_wp2_with fail
    rw [← hW2, ← hg2]
    clear hW2 hg2
    refine (CB.out _).mono ?_
    rintro e w4 ⟨rfl, hb4⟩
    have HC4 := Lib.hid (HC2.out.keep hb4)
    have HB4 := Lib.hid (HBw2.out.trans (hb4.mono HBw2.out.size))
    obtain ⟨W4, hW4⟩ : ∃ W, W = w4.alloc (.cells #[.string S, .int .i64 r, .int .u16 g] 25) := ⟨_, rfl⟩
    obtain ⟨g4, hg4⟩ : ∃ k, k = w4.heap.size := ⟨_, rfl⟩
    have HD4 := Lib.hid (cmd_cells w4 S r g W4 g4 hW4 hg4)
    have HC5 := Lib.hid (show CmdAt W4 g2 S r g by rw [hW4]; exact HC4.out.keep (Kit.below1 _ _))
    have HBw4 := Lib.hid (show Below w.heap.size w W4 by rw [hW4]; exact HB4.out.alloc HB4.out.size _)
    clear hb4 CB HC2 HBw2 HC4 HB4
    go_wp2_with fail
    rw [← hW4, ← hg4]
    clear hW4 hg4
    refine (CF.out _).mono ?_
    rintro e w5 ⟨rfl, hb5⟩
    have HC6 := Lib.hid (HC5.out.keep hb5)
    have HD6 := Lib.hid (HD4.out.keep hb5)
    have HB5 := Lib.hid (HBw4.out.trans (hb5.mono HBw4.out.size))
    clear hb5 CF HC5 HD4 HBw4
    go_wp2_with fail
    refine (CG.out _).mono ?_
    rintro e w6 ⟨rfl, hb6⟩
    have HC7 := Lib.hid (HC6.out.keep hb6)
    have HD7 := Lib.hid (HD6.out.keep hb6)
    have HB6 := Lib.hid (HB5.out.trans (hb6.mono HB5.out.size))
    clear hb6 CG HC6 HD6 HB5
    go_wp2_with fail
    refine (CX.out _).mono ?_
    rintro e w7 ⟨rfl, hb7⟩
    have HC8 := Lib.hid (HC7.out.keep hb7)
    have HD8 := Lib.hid (HD7.out.keep hb7)
    have HB7 := Lib.hid (HB6.out.trans (hb7.mono HB6.out.size))
    clear hb7 CX HC7 HD7 HB6
    go_wp2_with fail
    refine (CY.out _).mono ?_
    rintro e w8 ⟨rfl, hb8⟩
    have HC9 := Lib.hid (HC8.out.keep hb8)
    have HD9 := Lib.hid (HD8.out.keep hb8)
    have HB8 := Lib.hid (HB7.out.trans (hb8.mono HB7.out.size))
    clear hb8 CY HC8 HD8 HB7
    go_wp2_with fail
    refine (CS.out _).mono ?_
    rintro e w9 ⟨b9, o9, c9, rfl, hs9, hb9⟩
    have HC10 := Lib.hid (HC9.out.keep hb9)
    have HD10 := Lib.hid (HD9.out.keep hb9)
    have HB9 := Lib.hid (HB8.out.trans (hb9.mono HB8.out.size))
    have HS9 := Lib.hid hs9
    clear hb9 CS hs9 HC9 HD9 HB8
    go_wp2_with fail
    refine (CR.out _).mono ?_
    rintro e w10 ⟨b10, rfl, hs10, -, hb10⟩
    have HC11 := Lib.hid (HC10.out.keep hb10)
    have HD11 := Lib.hid (HD10.out.keep hb10)
    have HB10 := Lib.hid (HB9.out.trans (hb10.mono HB9.out.size))
    have CT := Lib.hid (StrS.same_texts (some ⟨b9, o9, none⟩) (some ⟨b10, 0, none⟩) cats cats 12 12 c9 12 w10 cats_len cats_len (HS9.out.keep hb10) hs10 (by decide))
    rw [decide_eq_true (rfl : cats = cats)] at CT
    clear hb10 CR hs10 HS9 HC10 HD10 HB9
    go_wp2_with fail
    refine CT.out.mono ?_
    rintro e w11 ⟨rfl, hb11⟩
    have HC12 := Lib.hid (HC11.out.keep hb11)
    have HD12 := Lib.hid (HD11.out.keep hb11)
    have HB11 := Lib.hid (HB10.out.trans (hb11.mono HB10.out.size))
    obtain ⟨-, a0, a1, a2⟩ := HC12.out
    obtain ⟨-, b0, b1, b2⟩ := HD12.out
    clear hb11 CT HC11 HD11 HB10
    go_wp2_with fail
    refine (CP.out _).mono ?_
    rintro e w12 ⟨rfl, hb12⟩
    have HB12 := Lib.hid (HB11.out.trans (hb12.mono HB11.out.size))
    clear hb12 CP a0 a1 a2 b0 b1 b2
    go_wp2_with fail
    refine (CQ.out _).mono ?_
    rintro e w13 ⟨rfl, hb13⟩
    have HB13 := Lib.hid (HB12.out.trans (hb13.mono HB12.out.size))
    clear hb13 CQ
    go_wp2_with fail
    go_ret
    exact ⟨rfl, HB13.out⟩

end Go.Proofs.Ythmkcdlchkdehaa.tableAll
