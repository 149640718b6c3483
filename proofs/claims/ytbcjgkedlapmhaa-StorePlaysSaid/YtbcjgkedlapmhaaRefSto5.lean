/-
  The document's own store: a value is put.
-/
import Derived.Test.YtbcjgkedlapmhaaRefSto4
namespace Go.Proofs.Ytbcjgkedlapmhaa.RefY
open Go.RowKit Kit StrT RowG BOrd ValT StoT
open Go.Op (bytesLess)
set_option linter.unusedVariables false
set_option maxRecDepth 100000

theorem YStep.block {w w' : World} {y : Nat} {ql qc ql' qc' : Option Addr} (h : YStep w y ql qc w' ql' qc') {b : Nat} (hb : b < w.heap.size) (hF : ¬ FY y ql qc b) : w'.heap[b]? = w.heap[b]? ∧ b < w'.heap.size ∧ ¬ FY y ql' qc' b :=
  ⟨h.off.block b hb hF, Nat.lt_of_lt_of_le hb h.off.size, fun h1 => by
    rcases h.gr b h1 with h2 | h2
    · exact hF h2
    · exact absurd hb (Nat.not_lt.2 h2)⟩
def goneP (k : List UInt8) (P : List (En PV)) : List (En PV) := if (lookE k (letL k P)).isSome then rm k P else letL k P
set_option maxHeartbeats 4000000 in
theorem rput_none {y : Nat} {ql : Option Addr} {nl cl : Nat} {qc : Option Addr} {nc cc : Nat} {P : List (En PV)} {Q : List Cn} {t : Nat} (K : ByteArray) (k : List UInt8) (x1 x2 x3 x4 : Value) (w : World) (hK : K.data.toList = k) (H : YR w y ql nl cl qc nc cc P Q t) (ho : ordE P) (hz : nl ≤ 1000000) (hzc : nc ≤ 1000000) (hm : ∀ x ∈ Q, x.n ≤ 1000000000000) :
    Calls Try.prog 20 #[.pointer (some ⟨y, 0, none⟩), .string K, .agg #[.int .u8 0, x1, x2, x3, x4]] w fun e w' => e = .returned (.tuple #[]) ∧
      ∃ ql' nl' cl' qc' nc' cc' Q', YR w' y ql' nl' cl' qc' nc' cc' (goneP k P) Q' t ∧ YStep w y ql qc w' ql' qc' ∧ (∀ x, cntL Q' x = dueC k P (cntL Q) x) ∧ LenP Q Q' k := by
  have HB0 := Lib.hid (show Below w.heap.size w (w.alloc (.cells #[.int .u8 0, x1, x2, x3, x4] 35)) from (Below.refl _ _).alloc (Nat.le_refl _) _)
  have HZ0 := Lib.hid (VCells.new w (.int .u8 0) x1 x2 x3 x4 w.heap.size rfl)
  have HF0 := Lib.hid (show ¬ FY y ql qc w.heap.size from fun h => absurd (H.lt _ h) (Nat.lt_irrefl _))
  have HA := Lib.hid (show YR (w.alloc (.cells #[.int .u8 0, x1, x2, x3, x4] 35)) y ql nl cl qc nc cc P Q t from H.same (fun k hk => Below.heap_alloc _ _ _ (H.lt k hk)))
  have HO := Lib.hid (ord_let (k := k) ho)
  have HO0 := Lib.hid ho
  have HKh := Lib.hid hK
  have HM := Lib.hid hm
  have HLl := Lib.hid (show (letL k P).length ≤ nl by rw [← H.rl.len]; exact List.length_filter_le _ _)
  have CL := Lib.hid (rlet K k _ hK HA.out ho hz)
  clear H ho hK hm
  go_enter Try.func20, Try.ntmps20
  go_wp2_with fail
  generalize w.alloc (.cells #[.int .u8 0, x1, x2, x3, x4] 35) = w1 at HB0 HZ0 HA CL ⊢
  refine CL.out.mono ?_
  rintro e w2 ⟨rfl, ql', nl', cl', hy, hs⟩
  have HY := Lib.hid hy
  have HSt := Lib.hid (hs.after HB0.out)
  have HBl := Lib.hid (hs.block HZ0.out.lt HF0.out)
  have HZ := Lib.hid (VCells.of (by rw [HBl.out.1]; exact HZ0.out.hp) : VCells w2 w.heap.size (.int .u8 0) x1 x2 x3 x4)
  have hN2 := HY.out.rl.len
  have CF := Lib.hid (rfind K k w2 HKh.out HY.out (by have := HLl.out; omega))
  have HN := Lib.hid hN2
  clear hy hs CL HA HB0 HZ0 HF0 hN2
  go_wp2_with fail
  refine CF.out.mono ?_
  rintro e w3 ⟨⟨r, rfl, hr⟩, rfl⟩
  obtain ⟨-, -, z0, z1, z2, z3, z4⟩ := HZ.out
  rcases find_look HO.out hr with ⟨rfl, hlk, -⟩ | ⟨i, hi, rfl, hk, hlk⟩
  · have HP := Lib.hid (show goneP k P = letL k P by unfold goneP; rw [hlk]; rfl)
    have HC := Lib.hid (show dueC k P (cntL Q) = cntL Q by unfold dueC; rw [hlk]; rfl)
    clear hr hlk
    go_wp2_with fail
    (try simp only [Exit.inBlock, Exit.then])
    refine bodyPost_ret (results_none rfl _ _ _) rfl ?_
    exact ⟨rfl, ql', nl', cl', _, _, _, _, by rw [HP.out]; exact HY.out, HSt.out, fun x => by rw [HC.out], lenP_refl _ _⟩
  · have HPe := Lib.hid (let_there HO0.out hlk)
    have HC := Lib.hid (show dueC k P (cntL Q) = cnt k (cntL Q) by unfold dueC; rw [hlk]; rfl)
    have HY2 := Lib.hid (show YR w3 y ql' nl' cl' qc nc cc P Q t by have h := HY.out; rwa [HPe.out] at h)
    have hi' : i < P.length := by rw [← HPe.out]; exact hi
    have hk' : P[i].key = k := by
      have h := hk
      simp only [HPe.out] at h
      exact h
    have HP := Lib.hid (show goneP k P = P.take i ++ P.drop (i + 1) by unfold goneP; rw [hlk]; simp only [Option.isSome_some, if_true]; exact rm_at HO0.out hi' hk')
    have hNp : P.length = nl' := HY2.out.rl.len
    have hzl : nl' ≤ 1000000 := by have := HLl.out; have := HN.out; omega
    have CD := Lib.hid (rdrop i w3 (by omega) HY2.out hzl)
    clear hr hlk hk hi HN HY CF hk' hNp hi'
    have hi0 : (0 : Int) ≤ (i : Int) := by omega
    go_wp2_with fail
    refine CD.out.mono ?_
    rintro e w4 ⟨rfl, ql4, nl4, cl4, hy4, hs4⟩
    have HY4 := Lib.hid hy4
    have HS4 := Lib.hid (HSt.out.trans hs4)
    have CC := Lib.hid (rcount K k w4 HKh.out HY4.out hzc HM.out)
    clear hy4 hs4 CD HSt HZ z0 z1 z2 z3 z4 HBl
    go_wp2_with fail
    refine CC.out.mono ?_
    rintro e w5 ⟨rfl, qc', nc', cc', Q', hy5, hs5, hc5, hl5⟩
    have HY5 := Lib.hid hy5
    have HS5 := Lib.hid (HS4.out.trans hs5)
    have HC5 := Lib.hid hc5
    have HL5 := Lib.hid hl5
    clear hy5 hs5 hc5 hl5
    go_wp2_with fail
    (try simp only [Exit.inBlock, Exit.then])
    refine bodyPost_ret (results_none rfl _ _ _) rfl ?_
    exact ⟨rfl, ql4, nl4, cl4, qc', nc', cc', Q', by rw [HP.out]; exact HY5.out, HS5.out, fun x => by rw [HC.out]; exact HC5.out x, HL5.out⟩

/-! ### The place of a new key -/
def putInv (u : En PV) (P : List (En PV)) (i : Nat) (o : List (En PV)) (b : Bool) : Prop :=
  (b = false ∧ o = P.take i ∧ ∀ x ∈ P.take i, bytesLess x.key u.key = true) ∨ (b = true ∧ o = ins u (P.take i) ∧ ∃ x ∈ P.take i, bytesLess u.key x.key = true)
theorem put_start (u : En PV) (P : List (En PV)) : putInv u P 0 [] false := Or.inl ⟨rfl, by simp, by simp⟩
theorem ins_snoc (u x : En PV) (A : List (En PV)) (h : bytesLess u.key x.key = true) : ins u (A ++ [x]) = ins u A ++ [x] := by
  unfold ins
  rw [List.filter_append, List.filter_append]
  simp [h, less_asymm h]
theorem ins_all (u : En PV) (A : List (En PV)) (h : ∀ x ∈ A, bytesLess x.key u.key = true) : ins u A = A ++ [u] := by
  unfold ins
  rw [List.filter_eq_self.2 h, List.filter_eq_nil_iff.2 (fun x hx => by rw [less_asymm (h x hx)]; simp)]
theorem put_more {u : En PV} {P : List (En PV)} {i : Nat} {o : List (En PV)} (hi : i < P.length) (h : putInv u P i o false) (hg : bytesLess u.key P[i].key = true) : putInv u P (i + 1) (o ++ [u] ++ [P[i]]) true := by
  rcases h with ⟨-, rfl, h2⟩ | ⟨h, -⟩
  · refine Or.inr ⟨rfl, ?_, P[i], ?_, hg⟩
    · rw [List.take_succ_eq_append_getElem hi, ins_snoc _ _ _ hg, ins_all _ _ h2]
    · rw [List.take_succ_eq_append_getElem hi]
      exact List.mem_append_right _ (List.mem_singleton.2 rfl)
  · cases h
theorem put_less {u : En PV} {P : List (En PV)} {i : Nat} {o : List (En PV)} (hi : i < P.length) (h : putInv u P i o false) (hg : bytesLess P[i].key u.key = true) : putInv u P (i + 1) (o ++ [P[i]]) false := by
  rcases h with ⟨-, rfl, h2⟩ | ⟨h, -⟩
  · refine Or.inl ⟨rfl, by rw [List.take_succ_eq_append_getElem hi], ?_⟩
    intro x hx
    rw [List.take_succ_eq_append_getElem hi] at hx
    rcases List.mem_append.1 hx with hx | hx
    · exact h2 x hx
    · rw [List.mem_singleton.1 hx]
      exact hg
  · cases h
theorem put_on {u : En PV} {P : List (En PV)} {i : Nat} {o : List (En PV)} (ho : ordE P) (hi : i < P.length) (h : putInv u P i o true) : putInv u P (i + 1) (o ++ [P[i]]) true := by
  rcases h with ⟨h, -⟩ | ⟨-, rfl, x, hx, hg⟩
  · cases h
  · obtain ⟨j, hj, rfl⟩ := List.getElem_of_mem hx
    rw [List.length_take] at hj
    rw [List.getElem_take] at hg
    have h1 := List.pairwise_iff_getElem.1 ho j i (by omega) hi (by omega)
    have h2 := less_trans _ _ _ hg h1
    refine Or.inr ⟨rfl, by rw [List.take_succ_eq_append_getElem hi, ins_snoc _ _ _ h2], P[i], ?_, h2⟩
    rw [List.take_succ_eq_append_getElem hi]
    exact List.mem_append_right _ (List.mem_singleton.2 rfl)
theorem put_end {u : En PV} {P : List (En PV)} {o : List (En PV)} {b : Bool} (h : putInv u P P.length o b) : (b = false → o ++ [u] = ins u P) ∧ (b = true → o = ins u P) := by
  unfold putInv at h
  rw [List.take_length] at h
  rcases h with ⟨rfl, rfl, h2⟩ | ⟨rfl, rfl, -⟩
  · exact ⟨fun _ => (ins_all _ _ h2).symm, fun h => by cases h⟩
  · exact ⟨fun h => (by cases h), fun _ => rfl⟩
theorem put_len {u : En PV} {P : List (En PV)} {i : Nat} {o : List (En PV)} {b : Bool} (h : putInv u P i o b) : o.length ≤ i + 1 := by
  rcases h with ⟨-, rfl, -⟩ | ⟨-, rfl, -⟩
  · rw [List.length_take]; omega
  · have := ins_len u (P.take i)
    rw [List.length_take] at this
    omega
def putP (k : List UInt8) (p : PV) (P : List (En PV)) : List (En PV) := ins (newE k p (lookE k (letL k P))) (rm k P)

end Go.Proofs.Ytbcjgkedlapmhaa.RefY
