/-
  Rows of one's own in a known block, that are changed record by record, put into and taken out of in place.
-/
import Derived.Test.YtodpocciimbjbaaDoorGRows
import Derived.Laws.CopyRow
import Derived.Laws.CopyOwn
import Derived.Laws.Append
import Derived.Lib.AppendZerosOnto
import Derived.Lib.SliceRun
namespace Go.Proofs.YtodpocciimbjbaaDoor.ValT
open Go.RowKit Kit RowG
set_option linter.unusedVariables false
set_option maxRecDepth 100000

theorem flat_set {α : Type} (E : Enc α) (a : α) (d : Nat) (u : Value) : ∀ (L : List α) (i : Nat) (h : i < L.length), E.enc a = (E.enc L[i]).set d u → d < E.sz → flat E (L.set i a) = (flat E L).set (i * E.sz + d) u
  | c :: L, 0, h, he, hd => by
    rw [List.set_cons_zero, flat_cons, flat_cons, Nat.zero_mul, Nat.zero_add, List.set_append_left _ _ (by rw [E.len]; exact hd)]
    rw [he]
    rfl
  | c :: L, i + 1, h, he, hd => by
    rw [List.set_cons_succ, flat_cons, flat_cons, List.set_append_right _ _ (by rw [E.len, Nat.succ_mul]; omega), show (i + 1) * E.sz + d - (E.enc c).length = i * E.sz + d by rw [E.len, Nat.succ_mul]; omega]
    rw [flat_set E a d u L i (by simpa using h) he hd]
/-- A row of one's own in a block that is known. -/
def OwnB {α : Type} (E : Enc α) (w : World) (g n cap : Nat) (L : List α) : Prop :=
  L.length = n ∧ n ≤ cap ∧ ∃ cur, w.heap[g]? = some (.cells cur E.ty (0, 0)) ∧ cap ≤ 9223372036854775807 ∧ cur.size = cap * E.sz ∧ cur.toList.take (n * E.sz) = flat E L
theorem OwnB.keep {α : Type} {E : Enc α} {w w' : World} {g n cap : Nat} {L : List α} (h : OwnB E w g n cap L) (hb : Below w.heap.size w w') : OwnB E w' g n cap L := by
  obtain ⟨h1, h2, cur, h3, h4⟩ := h
  exact ⟨h1, h2, cur, by rw [hb.block g (Array.getElem?_eq_some_iff.1 h3).1]; exact h3, h4⟩
theorem OwnB.lt {α : Type} {E : Enc α} {w : World} {g n cap : Nat} {L : List α} (h : OwnB E w g n cap L) : g < w.heap.size := by
  obtain ⟨h1, h2, cur, h3, h4⟩ := h
  exact (Array.getElem?_eq_some_iff.1 h3).1
theorem OwnB.frz {α : Type} {E : Enc α} {w : World} {g n cap : Nat} {L : List α} (h : OwnB E w g n cap L) (j : Nat) : w.frozen? ⟨g, j, none⟩ = false := by
  obtain ⟨h1, h2, cur, h3, h4⟩ := h
  exact frozen_of_row _ _ _ _ E.ty h3
theorem OwnB.cell {α : Type} {E : Enc α} {w : World} {g n cap : Nat} {L : List α} (h : OwnB E w g n cap L) (i d : Nat) (hi : i < L.length) (hd : d < E.sz) : w.cell? ⟨g, i * E.sz + d, none⟩ = (E.enc L[i])[d]? := by
  obtain ⟨h1, h2, cur, h3, h4, h5, h6⟩ := h
  rw [cell_of_row _ _ _ _ E.ty _ h3, ← flat_at E L i hi d hd, ← h6, List.getElem?_take, if_pos (mul_lt (by omega) hd)]
  simp
theorem OwnB.set {α : Type} {E : Enc α} {w : World} {g n cap : Nat} {L : List α} (h : OwnB E w g n cap L) (i d : Nat) (a : α) (u : Value) (hi : i < L.length) (hd : d < E.sz) (he : E.enc a = (E.enc L[i]).set d u) : OwnB E (w.setCell ⟨g, i * E.sz + d, none⟩ u) g n cap (L.set i a) := by
  obtain ⟨h1, h2, cur, h3, h4, h5, h6⟩ := h
  refine ⟨by rw [List.length_set]; exact h1, h2, _, heap_setCell_same _ _ _ _ _ _ h3, h4, by simpa using h5, ?_⟩
  rw [flat_set E a d u L i hi he hd, ← h6, Array.toList_setIfInBounds, List.take_set]
theorem OwnB.other {α : Type} {E : Enc α} {w : World} {g n cap : Nat} {L : List α} (h : OwnB E w g n cap L) (p : Addr) (u : Value) (hp : g ≠ p.block) : OwnB E (w.setCell p u) g n cap L := by
  obtain ⟨h1, h2, cur, h3, h4⟩ := h
  exact ⟨h1, h2, cur, by rw [heap_setCell_other _ _ _ _ hp]; exact h3, h4⟩
theorem OwnB.rs {α : Type} {E : Enc α} {w : World} {g n cap : Nat} {L : List α} (h : OwnB E w g n cap L) : Rs E w (some ⟨g, 0, none⟩) L := fun _ => by
  have hlt := h.lt
  obtain ⟨h1, h2, cur, h3, h4, h5, h6⟩ := h
  refine ⟨g, 0, rfl, hlt, fun j hj => ?_⟩
  rw [Nat.zero_add, cell_of_row _ _ _ _ E.ty _ h3, ← h6, List.getElem?_take, if_pos (by rw [← h1]; exact hj)]
  simp
/-- A row of an answer that nobody else has: an empty one of whatever kind. -/
def RowO {α : Type} (E : Enc α) (base : Nat) (w : World) (v : Value) (L : List α) : Prop :=
  ∃ q c, v = .slice q L.length c ∧ L.length ≤ c ∧ c ≤ 9223372036854775807 ∧ (q = none → c = 0) ∧ (L = [] ∨ ∃ g, q = some ⟨g, 0, none⟩ ∧ base ≤ g ∧ OwnB E w g L.length c L)
theorem OwnR.rowO {α : Type} {E : Enc α} {base : Nat} {w : World} {v : Value} {L : List α} (h : OwnR E base w v L) : RowO E base w v L := by
  rcases id h.2 with ⟨rfl, h0⟩ | ⟨g, cap, cur, rfl, hgb, hh, hc, hm, hsz, htake⟩
  · obtain rfl : L = [] := List.eq_nil_of_length_eq_zero h0
    exact ⟨none, 0, rfl, by simp, by omega, (fun _ => rfl), Or.inl rfl⟩
  · unfold maxLen at hm
    exact ⟨_, cap, rfl, hc, by omega, (fun h => by cases h), Or.inr ⟨g, rfl, hgb, rfl, hc, cur, hh, by omega, hsz, htake⟩⟩

end Go.Proofs.YtodpocciimbjbaaDoor.ValT
namespace Go.Proofs.YtodpocciimbjbaaDoor.RowG
open Go.RowKit Kit ValT
set_option linter.unusedVariables false
set_option maxRecDepth 100000
variable {α : Type} {E : Enc α} {w : World} {g n cap : Nat} {L : List α}

theorem elemE (E : Enc α) : Tryd.prog.underlying E.slt = some (.slice (Tryd.prog.elem E.slt)) := by
  simp [Program.elem, E.und]
theorem elem_is (E : Enc α) : Tryd.prog.elem E.slt = E.ty := by
  simp [Program.elem, E.und]
theorem sizeE (E : Enc α) (w : World) : (Go.sizeOf (Tryd.prog.elem E.slt)).run Tryd.prog w = .ok E.sz w := by
  obtain ⟨i0, hi0, hz0, hz1, hzb⟩ := info_parts E.info
  rw [elem_is]
  simp [sizeOf, typeInfo, hi0, hz1]
theorem sl_from (E : Enc α) (q : Option Addr) (n c lo : Nat) (h1 : lo ≤ n) (h2 : n ≤ c) (W : World) :
    (Instr.slice E.slt (.slice q n c) (some (.int .i64 (lo : Int))) none none).run Tryd.prog W = .ok (.slice (partAt E q c lo) (n - lo) (c - lo)) W := by
  rw [run_slice_l (P := Tryd.prog) W E.slt q n c (elemE E) .i64 (lo : Int) (by omega) (by omega), sizeE]
  simp [Result.andThen, sliced, partAt]
theorem sl_upto (E : Enc α) (q : Option Addr) (n c hi : Nat) (h1 : hi ≤ c) (W : World) :
    (Instr.slice E.slt (.slice q n c) none (some (.int .i64 (hi : Int))) none).run Tryd.prog W = .ok (.slice q hi c) W := by
  rw [run_slice_h (P := Tryd.prog) W E.slt q n c (elemE E) .i64 (hi : Int) (by omega) (by omega), sizeE]
  simp only [Result.andThen, sliced]
  have := part_zero E q c
  unfold partAt at this
  simpa using this
theorem sl_mid (E : Enc α) (q : Option Addr) (n c lo hi : Nat) (h1 : lo ≤ hi) (h2 : hi ≤ c) (W : World) :
    (Instr.slice E.slt (.slice q n c) (some (.int .i64 (lo : Int))) (some (.int .i64 (hi : Int))) none).run Tryd.prog W = .ok (.slice (partAt E q c lo) (hi - lo) (c - lo)) W := by
  rw [run_slice_lh (P := Tryd.prog) W E.slt q n c (elemE E) .i64 .i64 (lo : Int) (hi : Int) (by omega) (by omega) (by omega), sizeE]
  simp [Result.andThen, sliced, partAt]
theorem ownB_take (h : OwnB E w g n cap L) (i : Nat) (hi : i ≤ n) : OwnB E w g i cap (L.take i) := by
  obtain ⟨h1, h2, cur, h3, h4, h5, h6⟩ := h
  refine ⟨by rw [List.length_take]; omega, by omega, cur, h3, h4, h5, ?_⟩
  rw [flat_take, ← h6, List.take_take, Nat.min_eq_left (Nat.mul_le_mul_right _ hi)]
/-- What such an operation leaves: the row, and all other blocks. -/
structure InB (E : Enc α) (w w' : World) (g n cap : Nat) (L : List α) : Prop where
  ow : OwnB E w' g n cap L
  bl : ∀ B w0, Below B w0 w → B ≤ g → Below B w0 w'
  ot : ∀ k, k ≠ g → w'.heap[k]? = w.heap[k]?
  sz : w'.heap.size = w.heap.size
theorem take_splice {cur : List Value} {x y : Nat} {A M : List Value} (hA : cur.take x = A) (hx : A.length = x) (hM : M.length = y) : (cur.take x ++ M ++ cur.drop (x + y)).take (x + y) = A ++ M := by
  rw [hA, List.take_append_of_le_length (by simp; omega), List.take_of_length_le (by simp; omega)]
theorem run_append_in (ty : TypeId) (h : OwnB E w g n cap L) (ad : Addr) (M : List α) (m c : Nat) (hm : M.length = m) (hM : Rs E w (some ad) M) (hroom : n + m ≤ cap) :
    ∃ w', (Builtin.append_ #[E.slt, E.slt] ty #[.slice (some ⟨g, 0, none⟩) n cap, .slice (some ad) m c]).run Tryd.prog w = .ok (.slice (some ⟨g, 0, none⟩) (n + m) cap) w' ∧ InB E w w' g (n + m) cap (L ++ M) := by
  obtain ⟨i0, hi0, hz0, hz1, hzb⟩ := info_parts E.info
  obtain ⟨h1, h2, cur, h3, h4, h5, h6⟩ := h
  have hfl : (flat E M).length = m * E.sz := by rw [flat_len, hm]
  have hfL : (flat E L).length = n * E.sz := by rw [flat_len, h1]
  have hadd : n * E.sz + m * E.sz = (n + m) * E.sz := (Nat.add_mul _ _ _).symm
  have hle : (n + m) * E.sz ≤ cap * E.sz := Nat.mul_le_mul_right _ hroom
  have hr := run_append_room (P := Tryd.prog) w E.slt ty E.ty i0 E.und hi0 g n cap cur h3 ad m c (flat E M) (by rw [hz1]; exact hfl) (fun j u hu => by
    have hj : j < M.length * E.sz := by rw [← flat_len E M]; exact (List.getElem?_eq_some_iff.1 hu).1
    have h0 : 0 < M.length := by
      rcases Nat.eq_zero_or_pos M.length with h0 | h0
      · rw [h0, Nat.zero_mul] at hj; omega
      · exact h0
    obtain ⟨b, off, e, -, hc⟩ := hM h0
    injection e with e
    subst e
    rw [← hu, Addr.add_lit]
    exact hc j hj) (flat_one E M) hroom (by rw [hz1, hfl, h5]; omega)
  rw [hz1, hfl] at hr
  refine ⟨_, hr, ⟨by rw [List.length_append]; omega, by omega, _, setRow_heap w g cur _ E.ty _ h3, h4, ?_, ?_⟩, fun B w0 hb hB => below_setRow hb hB _, fun k hk => setRow_other w g k _ hk, by simp⟩
  · simp only [List.size_toArray, List.length_append, List.length_take, List.length_drop, Array.length_toList]
    omega
  · rw [← hadd, flat_app]
    exact take_splice h6 hfL hfl
/-- An append to a row of one's own, of whatever room: what of memory is as it was. -/
theorem run_append_any (E : Enc α) {base : Nat} (w : World) (ty : TypeId) (v : Value) (L : List α) (h : OwnR E base w v L) (ad : Addr) (M : List α) (m c : Nat) (hm : M.length = m) (hM : Rs E w (some ad) M) (hsz : L.length + m ≤ 2097152) (hb : base ≤ w.heap.size) :
    ∃ v' w', (Builtin.append_ #[E.slt, E.slt] ty #[v, .slice (some ad) m c]).run Tryd.prog w = .ok v' w' ∧ OwnR E base w' v' (L ++ M) ∧ w.grownBy w' v.ownBlock := by
  subst hm
  obtain ⟨i0, hi0, hz0, hz1, hzb⟩ := info_parts E.info
  have h64 := E.by64
  have h1 : (L.length + M.length) * E.bytes ≤ 2097152 * 256 := Nat.mul_le_mul (by omega) h64
  obtain ⟨v', w', hr, h2, h3, -⟩ := run_append_own (P := Tryd.prog) w base E.slt ty E.ty i0 E.zero E.sz E.bytes E.und hi0 hz0 hz1 hzb E.zlen E.pos v L.length (flat E L) h ad M.length c (flat E M) (flat_len E M) (fun j u hu => by
    have hj : j < M.length * E.sz := by rw [← flat_len E M]; exact (List.getElem?_eq_some_iff.1 hu).1
    have h0 : 0 < M.length := by
      rcases Nat.eq_zero_or_pos M.length with h0 | h0
      · rw [h0, Nat.zero_mul] at hj; omega
      · exact h0
    obtain ⟨b, off, e, -, hc⟩ := hM h0
    injection e with e
    subst e
    rw [← hu, Addr.add_lit]
    exact hc j hj) (flat_one E M) (by unfold maxLen; omega) (by omega) hb
  refine ⟨v', w', hr, ?_, h3⟩
  unfold OwnR
  rw [List.length_append, flat_app]
  exact h2
/-- A copy behind what stands. -/
theorem run_copy_in (ty : TypeId) (h : OwnB E w g n cap L) (ad : Addr) (M : List α) (m c dn dc o : Nat) (ho : o = n * E.sz) (hm : M.length = m) (hM : Rs E w (some ad) M) (hroom : n + m ≤ cap) (hdn : m ≤ dn) :
    ∃ w', (Builtin.copy_ #[E.slt, E.slt] ty #[.slice (some ⟨g, o, none⟩) dn dc, .slice (some ad) m c]).run Tryd.prog w = .ok (goInt m) w' ∧ InB E w w' g (n + m) cap (L ++ M) := by
  subst ho
  obtain ⟨i0, hi0, hz0, hz1, hzb⟩ := info_parts E.info
  obtain ⟨h1, h2, cur, h3, h4, h5, h6⟩ := h
  have hfl : (flat E M).length = m * E.sz := by rw [flat_len, hm]
  have hfL : (flat E L).length = n * E.sz := by rw [flat_len, h1]
  have hadd : n * E.sz + m * E.sz = (n + m) * E.sz := (Nat.add_mul _ _ _).symm
  have hle : (n + m) * E.sz ≤ cap * E.sz := Nat.mul_le_mul_right _ hroom
  have hl := run_loadCells_list (P := Tryd.prog) w ad (flat E M) (fun j u hu => by
    have hj : j < M.length * E.sz := by rw [← flat_len E M]; exact (List.getElem?_eq_some_iff.1 hu).1
    have h0 : 0 < M.length := by
      rcases Nat.eq_zero_or_pos M.length with h0 | h0
      · rw [h0, Nat.zero_mul] at hj; omega
      · exact h0
    obtain ⟨b, off, e, -, hc⟩ := hM h0
    injection e with e
    subst e
    rw [← hu, Addr.add_lit]
    exact hc j hj)
  have hst := run_storeCells_at Tryd.prog g (n * E.sz) E.ty (flat E M) 0 cur w h3 (by rw [hfl, h5]; omega) (flat_one E M)
  rw [hfl] at hl hst
  have hmin : Nat.min m dn = m := Nat.min_eq_left hdn
  refine ⟨_, by simp [Builtin.copy_, run_underlying E.und, Builtin.lenOf, Builtin.firstCells, sizeOf, typeInfo, hi0, hz1, hmin, hl, hst]; rfl, ⟨by rw [List.length_append]; omega, by omega, _, setRow_heap w g cur _ E.ty _ h3, h4, ?_, ?_⟩, fun B w0 hb hB => below_setRow hb hB _, fun k hk => setRow_other w g k _ hk, by simp⟩
  · simp only [List.size_toArray, List.length_append, List.length_take, List.length_drop, Array.length_toList]
    omega
  · rw [← hadd, flat_app]
    have := take_splice h6 hfL hfl
    simpa [List.append_assoc] using this
/-- A row with k more of nothing, for which there is no room: a new one. -/
theorem run_grow_in (E : Enc α) (w : World) (ty tn : TypeId) (htn : Tryd.prog.underlying tn = some (.int .i64)) (b off : Nat) (X : List α) (i k c : Nat) (hi : X.length = i) (hX : Rs E w (some ⟨b, off, none⟩) X) (hk : 0 < k) (hc : c < i + k) (hm : i + k ≤ 2097152) :
    ∃ G w', (Builtin.append_ #[E.slt, tn] ty #[.slice (some ⟨b, off, none⟩) i c, .int .i64 (k : Int)]).run Tryd.prog w = .ok (.slice (some ⟨w.heap.size, 0, none⟩) (i + k) G) w' ∧ OwnB E w' w.heap.size i G X ∧ i + k ≤ G ∧ Below w.heap.size w w' := by
  obtain ⟨i0, hi0, hz0, hz1, hzb⟩ := info_parts E.info
  have hfl : (flat E X).length = i * E.sz := by rw [flat_len, hi]
  have hb1 := E.by64
  have hold : (Builtin.firstCells i0.size i (.slice (some ⟨b, off, none⟩) i c)).run Tryd.prog w.drew = .ok (flat E X).toArray w.drew := by
    rw [hz1]
    refine run_firstCells_some w.drew E.sz i ⟨b, off, none⟩ i c (flat E X) hfl (fun j u hu => ?_)
    have hj : j < X.length * E.sz := by rw [← flat_len E X]; exact (List.getElem?_eq_some_iff.1 hu).1
    have h0 : 0 < X.length := by
      rcases Nat.eq_zero_or_pos X.length with h0 | h0
      · rw [h0, Nat.zero_mul] at hj; omega
      · exact h0
    obtain ⟨b', off', e, -, hc⟩ := hX h0
    injection e with e
    injection e with e1 e2
    subst e1 e2
    rw [← hu, Addr.add_lit]
    exact hc j hj
  have h1 : (i + k) * i0.bytes ≤ 2097152 * 256 := Nat.mul_le_mul (by omega) (by omega)
  have h2 : k * i0.bytes ≤ (i + k) * i0.bytes := Nat.mul_le_mul_right _ (by omega)
  have hr := Lib.run_append_grow_zeros w E.slt tn ty E.ty i0 E.zero .i64 .i64 E.und htn hi0 hz0 (some ⟨b, off, none⟩) i c (flat E X) hold k hk (by rw [hz1]; exact E.pos) hc (by omega) (by omega) (growslice_fits hc (by omega))
  have hge := grownCap_ge w (i + k) c E.ty
  have hle := grownCap_le_maxLen w (i + k) c E.ty (by unfold maxLen; omega)
  unfold maxLen at hle
  refine ⟨_, _, hr, ⟨hi, by omega, _, heap_alloc_last w.drew _, by omega, ?_, ?_⟩, hge, (Below.refl _ _).drew.alloc (Nat.le_refl _) _⟩
  · simp only [Array.size_append, List.size_toArray, size_zeroCells, E.zlen, hfl, ← Nat.add_mul]
    congr 1
    omega
  · simp only [Array.toList_append, List.append_assoc]
    rw [List.take_append_of_le_length (by simp [hfl]), List.take_of_length_le (by simp [hfl])]
/-- What lies behind a row is made nothing. -/
theorem run_clear_in (ty : TypeId) (h : OwnB E w g n cap L) (hz : ∀ u ∈ E.zero.cells.toList, u.oneCell' = true) (o k c p : Nat) (hp : p = o * E.sz) (ho : n ≤ o) (hk : o + k ≤ cap) :
    ∃ w', (Builtin.clear_ #[E.slt] ty #[.slice (some ⟨g, p, none⟩) k c]).run Tryd.prog w = .ok (.tuple #[]) w' ∧ InB E w w' g n cap L := by
  subst hp
  obtain ⟨i0, hi0, hz0, hz1, hzb⟩ := info_parts E.info
  cases k with
  | zero => exact ⟨w, by simp [Builtin.clear_, run_underlying E.und], h, fun B w0 hb _ => hb, fun k _ => rfl, rfl⟩
  | succ k =>
    obtain ⟨h1, h2, cur, h3, h4, h5, h6⟩ := h
    have hadd : o * E.sz + (k + 1) * E.sz = (o + (k + 1)) * E.sz := (Nat.add_mul _ _ _).symm
    have hle : (o + (k + 1)) * E.sz ≤ cap * E.sz := Nat.mul_le_mul_right _ hk
    have hno : n * E.sz ≤ o * E.sz := Nat.mul_le_mul_right _ ho
    have hzl : (Builtin.zeroCells E.zero.cells (k + 1)).toList.length = (k + 1) * E.sz := by
      have := size_zeroCells E.zero.cells (k + 1)
      rw [E.zlen] at this
      simpa using this
    have hst := run_storeCells_at Tryd.prog g (o * E.sz) E.ty (Builtin.zeroCells E.zero.cells (k + 1)).toList 0 cur w h3 (by rw [hzl, h5]; omega) (fun u hu => by
      unfold Builtin.zeroCells at hu
      simp at hu
      obtain ⟨j, hj, rfl⟩ := hu
      have hlt : j % E.zero.cells.size < E.zero.cells.size := Nat.mod_lt _ (by rw [E.zlen]; exact E.pos)
      rw [getElem!_pos E.zero.cells _ hlt]
      exact hz _ (by simp))
    rw [hzl] at hst
    refine ⟨_, by simp [Builtin.clear_, run_underlying E.und, zeroValue, typeInfo, hi0, hz0, hst]; rfl, ⟨h1, h2, _, setRow_heap w g cur _ E.ty _ h3, h4, ?_, ?_⟩, fun B w0 hb hB => below_setRow hb hB _, fun k hk => setRow_other w g k _ hk, by simp⟩
    · simp only [List.size_toArray, List.length_append, List.length_take, List.length_drop, Array.length_toList, hzl]
      omega
    · rw [← h6]
      rw [List.toList_toArray, List.take_append_of_le_length (by simp; omega), List.take_take, Nat.min_eq_left hno]
/-- An append to a row of one's own in a known block: in place, or in a new block; all else is as it was. -/
theorem run_append_two (ty : TypeId) (h : OwnB E w g n cap L) (ad : Addr) (M : List α) (m c : Nat) (hm : M.length = m) (hM : Rs E w (some ad) M) (hsz : n + m ≤ 2097152) :
    ∃ g' cap' w', (Builtin.append_ #[E.slt, E.slt] ty #[.slice (some ⟨g, 0, none⟩) n cap, .slice (some ad) m c]).run Tryd.prog w = .ok (.slice (some ⟨g', 0, none⟩) (n + m) cap') w' ∧ OwnB E w' g' (n + m) cap' (L ++ M) ∧ (g' = g ∨ g' = w.heap.size) ∧ (∀ k, k < w.heap.size → k ≠ g → w'.heap[k]? = w.heap[k]?) ∧ w.heap.size ≤ w'.heap.size ∧ (∀ B w0, Below B w0 w → B ≤ g → B ≤ w.heap.size → Below B w0 w') := by
  rcases Nat.lt_or_ge cap (n + m) with hc | hc
  · obtain ⟨i0, hi0, hz0, hz1, hzb⟩ := info_parts E.info
    have hO := id h
    obtain ⟨h1, h2, cur, h3, h4, h5, h6⟩ := h
    have hcl : ∀ {r : Option Addr} {X : List α}, Rs E w r X → ∀ a, r = some a → ∀ j u, (flat E X)[j]? = some u → w.cell? (a.add j) = some u := fun {r X} hR a ha j u hu => by
      have hj : j < X.length * E.sz := by rw [← flat_len E X]; exact (List.getElem?_eq_some_iff.1 hu).1
      have h0 : 0 < X.length := by
        rcases Nat.eq_zero_or_pos X.length with h0 | h0
        · rw [h0, Nat.zero_mul] at hj; omega
        · exact h0
      obtain ⟨b, off, e, -, hcc⟩ := hR h0
      rw [ha] at e
      injection e with e
      subst e
      rw [← hu, Addr.add_lit]
      exact hcc j hj
    have h64 := E.by64
    have hb1 : (n + m) * i0.bytes ≤ 2097152 * 256 := Nat.mul_le_mul (by omega) (by omega)
    have hr := run_append_grow (P := Tryd.prog) w E.slt ty E.ty i0 E.zero E.und hi0 hz0 ⟨g, 0, none⟩ n cap (flat E L) (by rw [hz1, flat_len, h1]) (hcl hO.rs _ rfl) ad m c (flat E M) (by rw [hz1, flat_len, hm]) (hcl hM _ rfl) hc (by omega) (growslice_fits hc (by omega))
    have hge := grownCap_ge w (n + m) cap E.ty
    have hle := grownCap_le_maxLen w (n + m) cap E.ty (by unfold maxLen; omega)
    unfold maxLen at hle
    have hfl : (flat E L).length = n * E.sz := by rw [flat_len, h1]
    have hfm : (flat E M).length = m * E.sz := by rw [flat_len, hm]
    have hadd : n * E.sz + m * E.sz = (n + m) * E.sz := (Nat.add_mul _ _ _).symm
    refine ⟨_, _, _, hr, ⟨by rw [List.length_append]; omega, hge, _, heap_alloc_last w.drew _, by omega, ?_, ?_⟩, Or.inr rfl, fun k hk _ => ((Below.refl w.heap.size w).drew.alloc (Nat.le_refl _) _).block k hk, by simp, fun B w0 hb _ hB => hb.drew.alloc hB _⟩
    · simp only [Array.size_append, List.size_toArray, size_zeroCells, E.zlen, hfl, hfm, ← Nat.add_mul]
      congr 1
      omega
    · simp only [Array.toList_append, List.append_assoc]
      rw [← List.append_assoc, flat_app, List.take_append_of_le_length (by simp [hfl, hfm]; omega), List.take_of_length_le (by simp [hfl, hfm]; omega)]
  · obtain ⟨w', hr, hI⟩ := run_append_in (E := E) ty h ad M m c hm hM hc
    exact ⟨g, cap, w', hr, hI.ow, Or.inl rfl, fun k _ hk => hI.ot k hk, by rw [hI.sz]; exact Nat.le_refl _, fun B w0 hb hB _ => hI.bl B w0 hb hB⟩

end Go.Proofs.YtodpocciimbjbaaDoor.RowG
