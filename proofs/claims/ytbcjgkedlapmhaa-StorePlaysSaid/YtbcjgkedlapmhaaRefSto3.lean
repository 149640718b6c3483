/-
  The document's own store: what is past is let go of; what a key has, and its deadline.
-/
import Derived.Test.YtbcjgkedlapmhaaRefSto2
import Derived.Test.YtbcjgkedlapmhaaFive
namespace Go.Proofs.Ytbcjgkedlapmhaa.RefY
open Go.RowKit Kit StrT RowG BOrd ValT StoT
open Go.Op (bytesLess)
set_option linter.unusedVariables false
set_option maxRecDepth 100000

theorem find_look {k : List UInt8} {P : List (En PV)} (h : ordE P) {r : Int} (hr : FindP k P r) : (r = -1 ∧ lookE k P = none ∧ ∀ e ∈ P, e.key ≠ k) ∨ ∃ i, ∃ hi : i < P.length, r = (i : Int) ∧ P[i].key = k ∧ lookE k P = some P[i] := by
  rcases hr with ⟨h1, h2⟩ | ⟨i, hi, h1, h2⟩
  · exact Or.inl ⟨h1, look_none.2 h2, h2⟩
  · exact Or.inr ⟨i, hi, h1, h2, look_at h hi h2⟩
set_option maxHeartbeats 4000000 in
theorem rlet {y : Nat} {ql : Option Addr} {nl cl : Nat} {qc : Option Addr} {nc cc : Nat} {P : List (En PV)} {Q : List Cn} {t : Nat} (K : ByteArray) (k : List UInt8) (w : World) (hK : K.data.toList = k) (H : YR w y ql nl cl qc nc cc P Q t) (ho : ordE P) (hz : nl ≤ 1000000) :
    Calls Try.prog 36 #[.pointer (some ⟨y, 0, none⟩), .string K] w fun e w' => e = .returned (.tuple #[]) ∧ ∃ ql' nl' cl', YR w' y ql' nl' cl' qc nc cc (letL k P) Q t ∧ YStep w y ql qc w' ql' qc := by
  have HH := Lib.hid H
  have HN := Lib.hid H.rl.len
  have HS := Lib.hid H.rl.rs
  have HO := Lib.hid ho
  have CF := Lib.hid (rfind K k w hK H (by omega))
  have CD := Lib.hid (fun i (hi : i < nl) => rdrop i w hi H hz)
  obtain ⟨c0, c1, c2⟩ := yr_cells H
  clear H ho hK
  go_enter Try.func36, Try.ntmps36
  go_wp2_with fail
  refine CF.out.mono ?_
  rintro e w1 ⟨⟨r, rfl, hr⟩, rfl⟩
  rcases find_look HO.out hr with ⟨rfl, -, hn⟩ | ⟨i, hi, rfl, hk, -⟩
  · have HE := Lib.hid (letL_none hn)
    clear hr hn
    go_wp2_with fail
    go_end0
    exact ⟨rfl, ql, nl, cl, by rw [HE.out]; exact HH.out, YStep.refl _ _ _ _⟩
  · have hin : i < nl := by rw [← HN.out]; exact hi
    have hi0 : (0 : Int) ≤ (i : Int) := by omega
    have hi1 : (i : Int) < (nl : Int) := by omega
    obtain ⟨b, off, rfl, hbl, u0, u1, u2, u3, u4, u5, u6, u7, u8⟩ := en_cells HS.out i hi
    have HK := Lib.hid hk
    cases hp : (P[i]'hi).past with
    | true =>
      rw [hp] at u8
      have HE := Lib.hid (show letL k P = P.take i ++ P.drop (i + 1) by rw [letL_past HO.out hi hk hp, rm_at HO.out hi hk])
      have HC := Lib.hid (CD.out i hin)
      clear hr hk hp hbl u0 u1 u2 u3 u4 u5 u6 u7
      go_wp2_with fail
      refine HC.out.mono ?_
      rintro e w2 ⟨rfl, ql', nl', cl', hy, hs⟩
      have HY := Lib.hid hy
      have HSt := Lib.hid hs
      clear hy hs
      go_wp2_with fail
      go_end0
      exact ⟨rfl, ql', nl', cl', by rw [HE.out]; exact HY.out, HSt.out⟩
    | false =>
      rw [hp] at u8
      have HE := Lib.hid (letL_keep HO.out hi hk hp)
      clear hr hk hp hbl u0 u1 u2 u3 u4 u5 u6 u7
      go_wp2_with fail
      go_end0
      exact ⟨rfl, _, nl, cl, by rw [HE.out]; exact HH.out, YStep.refl _ _ _ _⟩
/-- What a key has, with where it lies. -/
def getP (k : List UInt8) (P : List (En PV)) : PV := (getV k P).getD pv0
theorem ord_let {k : List UInt8} {P : List (En PV)} (h : ordE P) : ordE (letL k P) := ordE_filter _ h
theorem getP_some {k : List UInt8} {P : List (En PV)} {e : En PV} (h : lookE k (letL k P) = some e) : getP k P = e.v := by
  unfold getP getV
  rw [h]
  rfl
theorem getP_none {k : List UInt8} {P : List (En PV)} (h : lookE k (letL k P) = none) : getP k P = pv0 := by
  unfold getP getV
  rw [h]
  rfl
/-- A value that is answered through a block of its own: what stays of a store. -/
theorem yr_five {w : World} {y g : Nat} {ql : Option Addr} {nl cl : Nat} {qc : Option Addr} {nc cc : Nat} {P : List (En PV)} {Q : List Cn} {t : Nat} (H : YR w y ql nl cl qc nc cc P Q t) (hg : ¬ FY y ql qc g) (y0 y1 y2 y3 y4 : Value) : YR (five w g y0 y1 y2 y3 y4) y ql nl cl qc nc cc P Q t :=
  H.same (fun k hk => five_other _ _ _ _ _ _ _ _ (fun e => hg (e ▸ hk)))
theorem off_five {F : Nat → Prop} {w0 w : World} {g : Nat} (h : Off F w0 w) (hg : w0.heap.size ≤ g) (y0 y1 y2 y3 y4 : Value) : Off F w0 (five w g y0 y1 y2 y3 y4) := by
  have hb := five_below (Below.refl g w) (Nat.le_refl g) y0 y1 y2 y3 y4
  refine ⟨hb.os.trans h.os, hb.tape.trans h.tape, hb.output.trans h.output, Nat.le_trans h.size hb.size, fun k hk hF => ?_⟩
  · exact (five_other w g k y0 y1 y2 y3 y4 (Nat.ne_of_lt (Nat.lt_of_lt_of_le hk hg))).trans (h.block k hk hF)
theorem step_five {w0 w : World} {y g : Nat} {ql qc ql' qc' : Option Addr} (h : YStep w0 y ql qc w ql' qc') (hg : w0.heap.size ≤ g) (y0 y1 y2 y3 y4 : Value) : YStep w0 y ql qc (five w g y0 y1 y2 y3 y4) ql' qc' :=
  ⟨off_five h.off hg _ _ _ _ _, h.gr⟩
set_option maxHeartbeats 4000000 in
theorem rget {y : Nat} {ql : Option Addr} {nl cl : Nat} {qc : Option Addr} {nc cc : Nat} {P : List (En PV)} {Q : List Cn} {t : Nat} (K : ByteArray) (k : List UInt8) (w : World) (hK : K.data.toList = k) (H : YR w y ql nl cl qc nc cc P Q t) (ho : ordE P) (hz : nl ≤ 1000000) :
    Calls Try.prog 14 #[.pointer (some ⟨y, 0, none⟩), .string K] w fun e w' => e = .returned (getP k P).agg ∧ ∃ ql' nl' cl', YR w' y ql' nl' cl' qc nc cc (letL k P) Q t ∧ YStep w y ql qc w' ql' qc := by
  have HB0 := Lib.hid (show Below w.heap.size w (w.alloc (.cells #[.int .u8 0, .string ⟨#[]⟩, .slice none 0 0, .slice none 0 0, .slice none 0 0] 35)) from (Below.refl _ _).alloc (Nat.le_refl _) _)
  have HZ0 := Lib.hid (VCells.new w (.int .u8 0) (.string ⟨#[]⟩) (.slice none 0 0) (.slice none 0 0) (.slice none 0 0) w.heap.size rfl)
  have HF0 := Lib.hid (show ¬ FY y ql qc w.heap.size from fun h => absurd (H.lt _ h) (Nat.lt_irrefl _))
  have HA := Lib.hid (show YR (w.alloc (.cells #[.int .u8 0, .string ⟨#[]⟩, .slice none 0 0, .slice none 0 0, .slice none 0 0] 35)) y ql nl cl qc nc cc P Q t from H.same (fun k hk => Below.heap_alloc _ _ _ (H.lt k hk)))
  have HO := Lib.hid (ord_let (k := k) ho)
  have HKh := Lib.hid hK
  have HLl := Lib.hid (show (letL k P).length ≤ nl by rw [← H.rl.len]; exact List.length_filter_le _ _)
  have CL := Lib.hid (rlet K k _ hK HA.out ho hz)
  clear H ho hK
  go_enter Try.func14, Try.ntmps14
  go_wp2_with fail
  generalize w.alloc (.cells #[.int .u8 0, .string ⟨#[]⟩, .slice none 0 0, .slice none 0 0, .slice none 0 0] 35) = w1 at HB0 HZ0 HA CL ⊢
  refine CL.out.mono ?_
  rintro e w2 ⟨rfl, ql', nl', cl', hy, hs⟩
  have HY := Lib.hid hy
  have HSt := Lib.hid (hs.after HB0.out)
  have HZ := Lib.hid (VCells.of (by rw [hs.off.block _ HZ0.out.lt HF0.out]; exact HZ0.out.hp) : VCells w2 w.heap.size (.int .u8 0) (.string ⟨#[]⟩) (.slice none 0 0) (.slice none 0 0) (.slice none 0 0))
  have HF2 := Lib.hid (show ¬ FY y ql' qc w.heap.size from fun h => by
    rcases hs.gr _ h with h1 | h1
    · exact HF0.out h1
    · have := HZ0.out.lt; omega)
  have hN2 := HY.out.rl.len
  have CF := Lib.hid (rfind K k w2 HKh.out HY.out (by have := HLl.out; omega))
  have HN := Lib.hid hN2
  clear hy hs CL HA HB0 HZ0 HF0 hN2
  go_wp2_with fail
  refine CF.out.mono ?_
  rintro e w3 ⟨⟨r, rfl, hr⟩, rfl⟩
  obtain ⟨-, -, z0, z1, z2, z3, z4⟩ := HZ.out
  have y0 := HZ.out.frz 0
  have y1 := HZ.out.frz 1
  have y2 := HZ.out.frz 2
  have y3 := HZ.out.frz 3
  have y4 := HZ.out.frz 4
  rcases find_look HO.out hr with ⟨rfl, hlk, -⟩ | ⟨i, hi, rfl, hk, hlk⟩
  · have HE := Lib.hid (getP_none hlk)
    have HHe := Lib.hid (val_five HZ.out.hp (.int .u8 0) (.string ⟨#[]⟩) (.slice none 0 0) (.slice none 0 0) (.slice none 0 0))
    have HCs := Lib.hid (show (Try.prog.info? 35).map (·.size) = some (#[.int .u8 0, .string ⟨#[]⟩, .slice none 0 0, .slice none 0 0, .slice none 0 0] : Array Value).size from val_size)
    clear hr hlk
    go_wp2_with fail
    exact bodyPost_ret (results_cell_row rfl _ _ w.heap.size 35 #[.int .u8 0, .string ⟨#[]⟩, .slice none 0 0, .slice none 0 0, .slice none 0 0] (0, 0) _ rfl HHe.out Try.underlying35 rfl HCs.out) rfl ⟨by rw [HE.out]; rfl, ql', nl', cl', yr_five HY.out HF2.out _ _ _ _ _, step_five HSt.out (Nat.le_refl _) _ _ _ _ _⟩
  · have HE := Lib.hid (getP_some hlk)
    obtain ⟨c0, -, -⟩ := yr_cells HY.out
    obtain ⟨b, off, e, hbl, u0, u1, u2, u3, u4, u5, -⟩ := en_cells HY.out.rl.rs i hi
    subst e
    have hi0 : (0 : Int) ≤ (i : Int) := by omega
    have hi1 : (i : Int) < (nl' : Int) := by have := HN.out; omega
    generalize hv : ((letL k P)[i]'hi).v = v at u1 u2 u3 u4 u5 HE
    have HHe := Lib.hid (val_five HZ.out.hp (.int .u8 v.k) (.string v.S) (.slice v.ql v.nl v.cl) (.slice v.qh v.nh v.ch) (.slice v.qz v.nz v.cz))
    have HCs := Lib.hid (show (Try.prog.info? 35).map (·.size) = some (#[.int .u8 v.k, .string v.S, .slice v.ql v.nl v.cl, .slice v.qh v.nh v.ch, .slice v.qz v.nz v.cz] : Array Value).size from val_size)
    clear hr hlk hv hbl u0 hk
    go_wp2_with fail
    exact bodyPost_ret (results_cell_row rfl _ _ w.heap.size 35 #[.int .u8 v.k, .string v.S, .slice v.ql v.nl v.cl, .slice v.qh v.nh v.ch, .slice v.qz v.nz v.cz] (0, 0) _ rfl HHe.out Try.underlying35 rfl HCs.out) rfl ⟨by rw [HE.out]; rfl, _, nl', cl', yr_five HY.out HF2.out _ _ _ _ _, step_five HSt.out (Nat.le_refl _) _ _ _ _ _⟩

end Go.Proofs.Ytbcjgkedlapmhaa.RefY
