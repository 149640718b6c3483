/-
  SortedBack: marks put in by their places, in whichever order; a value laid over another one in its block; the names.
-/
import Derived.Test.YtodpocciimbjbaaDoorSrtLaws
import Derived.Test.YtodpocciimbjbaaDoorIntRow
namespace Go.Proofs.YtodpocciimbjbaaDoor.SrtL
open Go.RowKit Kit StrT RowG BOrd ValT StoT ReplyT ReplyMath ValM BytesIn DoT Low SrtT NumL NumW NumMath ReplyM SrtM SaidT RefR DoV LawK
open Go.Op (bytesLess)
open Go.Lib (itoa)
set_option linter.unusedVariables false
set_option maxRecDepth 100000

/-- Marks put in, one behind the other, by their places. -/
def putI (nm : Nat → List UInt8) (v : Nat → Int) (I : List Nat) : List Mk := I.foldl (fun M i => putZ M (nm i) (v i)) []
theorem putI_snoc (nm : Nat → List UInt8) (v : Nat → Int) (I : List Nat) (i : Nat) : putI nm v (I ++ [i]) = putZ (putI nm v I) (nm i) (v i) := by
  unfold putI
  rw [List.foldl_append]
  rfl
theorem snoc_rec {P : List Nat → Prop} (h0 : P []) (h1 : ∀ I i, P I → P (I ++ [i])) : ∀ n I, I.length = n → P I
  | 0, I, h => by rw [List.eq_nil_of_length_eq_zero h]; exact h0
  | n + 1, I, h => by
    have hne : I ≠ [] := by intro e; rw [e] at h; simp at h
    rw [← List.dropLast_concat_getLast hne]
    exact h1 _ _ (snoc_rec h0 h1 n _ (by rw [List.length_dropLast, h]; rfl))
theorem putI_up (nm : Nat → List UInt8) (v : Nat → Int) (I : List Nat) : marks (putI nm v I) := by
  refine snoc_rec (P := fun I => marks (putI nm v I)) marks_nil (fun I i ih => ?_) I.length I rfl
  rw [putI_snoc]
  exact put_up _ _ ih
theorem putI_mem (nm : Nat → List UInt8) (v : Nat → Int) (m : Nat) (hinj : ∀ i j, i < m → j < m → nm i = nm j → i = j) (I : List Nat) : (∀ i ∈ I, i < m) → ∀ y, y ∈ putI nm v I ↔ ∃ i ∈ I, y = ⟨nm i, v i⟩ := by
  refine snoc_rec (P := fun I => (∀ i ∈ I, i < m) → ∀ y, y ∈ putI nm v I ↔ ∃ i ∈ I, y = ⟨nm i, v i⟩) (fun _ y => by simp [putI]) (fun I i ih hI y => ?_) I.length I rfl
  have hI0 : ∀ j ∈ I, j < m := fun j hj => hI j (List.mem_append_left _ hj)
  have hi : i < m := hI i (by simp)
  rw [putI_snoc, put_mem, ih hI0]
  constructor
  · rintro (rfl | ⟨⟨j, hj, rfl⟩, -⟩)
    · exact ⟨i, by simp, rfl⟩
    · exact ⟨j, List.mem_append_left _ hj, rfl⟩
  · rintro ⟨j, hj, rfl⟩
    by_cases e : nm j = nm i
    · have := hinj j i (hI j hj) hi e
      subst this
      exact Or.inl rfl
    · refine Or.inr ⟨⟨j, ?_, rfl⟩, e⟩
      rcases List.mem_append.1 hj with h | h
      · exact h
      · rw [List.mem_singleton.1 h] at e
        exact absurd rfl e
theorem putI_same (nm : Nat → List UInt8) (v : Nat → Int) (m : Nat) (hinj : ∀ i j, i < m → j < m → nm i = nm j → i = j) (I J : List Nat) (hI : ∀ i ∈ I, i < m) (hIJ : ∀ i, i ∈ I ↔ i ∈ J) : putI nm v I = putI nm v J :=
  marks_ext (putI_up nm v I) (putI_up nm v J) fun y => by
    rw [putI_mem nm v m hinj I hI, putI_mem nm v m hinj J (fun i hi => hI i ((hIJ i).2 hi))]
    exact ⟨fun ⟨i, hi, e⟩ => ⟨i, (hIJ i).1 hi, e⟩, fun ⟨i, hi, e⟩ => ⟨i, (hIJ i).2 hi, e⟩⟩
theorem putI_in (nm : Nat → List UInt8) (v : Nat → Int) (hv : ∀ i, inI (v i)) (I : List Nat) : ∀ x ∈ putI nm v I, inI x.n := by
  refine snoc_rec (P := fun I => ∀ x ∈ putI nm v I, inI x.n) (fun x hx => by cases hx) (fun I i ih => ?_) I.length I rfl
  rw [putI_snoc]
  exact put_in _ ih (hv i)
theorem putI_len (nm : Nat → List UInt8) (v : Nat → Int) (I : List Nat) : (putI nm v I).length ≤ I.length := by
  refine snoc_rec (P := fun I => (putI nm v I).length ≤ I.length) (Nat.le_refl _) (fun I i ih => ?_) I.length I rfl
  rw [putI_snoc, List.length_append]
  have := (put_le (nm i) (v i) (putI_up nm v I)).2.1
  simp
  omega
/-- All names unlike: as many marks as there were put in. -/
theorem putI_full (nm : Nat → List UInt8) (v : Nat → Int) (m : Nat) (hinj : ∀ i j, i < m → j < m → nm i = nm j → i = j) : ∀ x, x ≤ m → (putI nm v (List.range x)).length = x
  | 0, _ => rfl
  | x + 1, hx => by
    have ih := putI_full nm v m hinj x (by omega)
    rw [List.range_succ, putI_snoc]
    have h1 := put_len (nm x) (v x) (putI_up nm v (List.range x))
    rw [h1, if_neg, ih]
    rw [has_iff]
    rintro ⟨y, hy, e⟩
    obtain ⟨i, hi, rfl⟩ := (putI_mem nm v m hinj (List.range x) (fun i hi => by have := List.mem_range.1 hi; omega) y).1 hy
    have h2 := List.mem_range.1 hi
    have := hinj i x (by omega) (by omega) e
    omega
theorem put_again {M : List Mk} (h : marks M) (s : List UInt8) (x y : Int) : putZ (putZ M s x) s y = putZ M s y := by
  refine marks_ext (put_up s y (put_up s x h)) (put_up s y h) fun z => ?_
  rw [put_mem, put_mem, put_mem]
  constructor
  · rintro (e | ⟨rfl | h1, h2⟩)
    · exact Or.inl e
    · exact absurd rfl h2
    · exact Or.inr h1
  · rintro (e | h1)
    · exact Or.inl e
    · exact Or.inr ⟨Or.inr h1, h1.2⟩
/-- What a place's mark is told with. -/
theorem putI_num (nm : Nat → List UInt8) (v : Nat → Int) (m : Nat) (hinj : ∀ i j, i < m → j < m → nm i = nm j → i = j) (i : Nat) (hi : i < m) : hasM (putI nm v (List.range m)) (nm i) = true ∧ numM (putI nm v (List.range m)) (nm i) = v i := by
  have hm : (⟨nm i, v i⟩ : Mk) ∈ putI nm v (List.range m) := (putI_mem nm v m hinj _ (fun j hj => List.mem_range.1 hj) _).2 ⟨i, List.mem_range.2 hi, rfl⟩
  exact ⟨has_iff.2 ⟨_, hm, rfl⟩, num_of (putI_up nm v _) hm⟩
theorem add_row2 (M : List Mk) (f s : List UInt8) (x : Int) (hf : f = itoa x) (x0 : -9223372036854775808 ≤ x) (x1 : x ≤ 9223372036854775807) : rowD 0 M [f, s] = (putZ M s x, (rowD 0 M [f, s]).2) := by
  rw [add_row M f s x hf x0 x1]
theorem itoa_7 : ([55] : List UInt8) = itoa 7 := by decide +kernel
/-- The names of the marks. -/
def nmB (i : Nat) : ByteArray := ⟨#[UInt8.ofNat (97 + i)]⟩
def nmL (i : Nat) : List UInt8 := [UInt8.ofNat (97 + i)]
theorem nm_inj (m : Nat) (hm : m ≤ 8) : ∀ i j, i < m → j < m → nmL i = nmL j → i = j := by
  intro i j hi hj h
  unfold nmL at h
  injection h with h
  have h2 := congrArg UInt8.toNat h
  simp at h2
  omega
set_option maxHeartbeats 4000000 in
theorem slice_names : ∀ i : Nat, i < 8 → ∀ W : World, (Instr.slice 9 (.string ⟨#[97, 98, 99, 100, 101, 102, 103, 104]⟩) (some (.int .i64 (i : Int))) (some (.int .i64 ((i : Int) + 1))) none).run Tryd.prog W = .ok (.string (nmB i)) W := by
  intro i hi W
  have h8 : i = 0 ∨ i = 1 ∨ i = 2 ∨ i = 3 ∨ i = 4 ∨ i = 5 ∨ i = 6 ∨ i = 7 := by omega
  rcases h8 with rfl | rfl | rfl | rfl | rfl | rfl | rfl | rfl <;> rfl
/-- A name taken out of such a row: of three that are asked for, one is there. -/
theorem rem_three {M : List Mk} (h : marks M) (h0 : hasM M [97] = true) (hz : hasM M [122] = false) : rowD 1 M [[97], [122], [97]] = (remM M [97], int 1) := by
  have e1 : remM (remM (remM M [97]) [122]) [97] = remM M [97] := by
    rw [rem_not (l := remM M [97]) (by rw [rem_other (by decide)]; exact hz), rem_not (rem_has M [97])]
  show (remM (remM (remM M [97]) [122]) [97], int ((M.length : Int) - ((remM (remM (remM M [97]) [122]) [97]).length : Int))) = _
  rw [e1, ← rem_len h h0]
  congr 2
  omega
def rotL (a m x : Nat) : List Nat := (List.range x).map (fun i => (i + a) % m)
theorem rot_snoc (a m x : Nat) : rotL a m (x + 1) = rotL a m x ++ [(x + a) % m] := by
  unfold rotL
  rw [List.range_succ, List.map_append]
  rfl
theorem rot_len (a m x : Nat) : (rotL a m x).length = x := by
  unfold rotL
  simp
theorem rot_all (a m : Nat) (hm : 0 < m) (i : Nat) : i ∈ List.range m ↔ i ∈ rotL a m m := by
  unfold rotL
  rw [List.mem_range, List.mem_map]
  constructor
  · intro h
    refine ⟨(i + (m - a % m)) % m, List.mem_range.2 (Nat.mod_lt _ hm), ?_⟩
    rw [Nat.mod_add_mod]
    have h1 : a % m < m := Nat.mod_lt _ hm
    have h2 : m * (a / m) + a % m = a := Nat.div_add_mod a m
    have h3 : i + (m - a % m) + a = i + m * (a / m + 1) := by rw [Nat.mul_add]; omega
    rw [h3, Nat.add_mul_mod_self_left]
    exact Nat.mod_eq_of_lt h
  · rintro ⟨x, -, rfl⟩
    exact Nat.mod_lt _ hm
/-- A value laid over another one in its block; all other old blocks are as they were. -/
structure Trn (w wr wx : World) (ga : Nat) (p : PV) (d : V) : Prop where
  v : VB wx ga p
  e : p.d = d
  n : ∀ j, p.at_ j → wr.heap.size ≤ j
  o : ∀ j, j < wr.heap.size → j ≠ ga → wx.heap[j]? = wr.heap[j]?
  s : wr.heap.size ≤ wx.heap.size
  b : Below w.heap.size w wx
theorem trn_five {w wr w5 : World} {ga : Nat} {p0 p : PV} {d : V} (hK : VB w5 ga p0) (hI : p.In w5) (hd : p.d = d) (hn : ∀ j, p.at_ j → wr.heap.size ≤ j) (hb : Below wr.heap.size wr w5) (hB : Below w.heap.size w wr) (hga : w.heap.size ≤ ga) (hlt : ga < wr.heap.size) :
    Trn w wr (five w5 ga (.int .u8 p.k) (.string p.S) (.slice p.ql p.nl p.cl) (.slice p.qh p.nh p.ch) (.slice p.qz p.nz p.cz)) ga p d :=
  ⟨VB.five hK hI (fun j hj => by have := hn j hj; omega), hd, hn, fun j hj hne => (five_other _ _ _ _ _ _ _ _ hne).trans (hb.block j hj), by simpa [five] using hb.size, five_below (hB.trans (hb.mono hB.size)) hga _ _ _ _ _⟩
theorem trn_row {w wr w5 : World} {ga : Nat} {p0 p : PV} {d : V} (hK : VB w5 ga p0) (hI : p.In w5) (hd : p.d = d) (hn : ∀ j, p.at_ j → wr.heap.size ≤ j) (hb : Below wr.heap.size wr w5) (hB : Below w.heap.size w wr) (hga : w.heap.size ≤ ga) (hlt : ga < wr.heap.size) :
    Trn w wr (w5.setRow ga #[.int .u8 p.k, .string p.S, .slice p.ql p.nl p.cl, .slice p.qh p.nh p.ch, .slice p.qz p.nz p.cz]) ga p d :=
  ⟨VB.put hK hI (fun j hj => by have := hn j hj; omega), hd, hn, fun j hj hne => (setRow_other _ _ _ _ hne).trans (hb.block j hj), by simpa using hb.size, below_setRow (hB.trans (hb.mono hB.size)) hga _⟩
theorem Trn.vb {w wr wx : World} {ga gb : Nat} {p r : PV} {d : V} (h : Trn w wr wx ga p d) (hr : VB wr gb r) (hne : gb ≠ ga) (hro : ∀ j, r.at_ j → j ≠ ga) : VB wx gb r :=
  ⟨(h.o gb hr.lt hne).trans hr.hp, hr.pv.same h.s (fun j hj => h.o j (hr.rows j hj) (hro j hj))⟩
def loopsOf : Code → List Code
  | .loop c => [c]
  | .seq a b => loopsOf a ++ loopsOf b
  | .block _ c => loopsOf c
  | .scope c => loopsOf c
  | .cond _ a b => loopsOf a ++ loopsOf b
  | _ => []

end Go.Proofs.YtodpocciimbjbaaDoor.SrtL
