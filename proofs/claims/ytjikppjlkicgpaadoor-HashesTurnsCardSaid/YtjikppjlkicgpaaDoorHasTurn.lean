/-
  HashesTurns: pairs of unlike names, set in whichever order; rows of texts appended to in a known block; a value laid over another one in its block.
-/
import Derived.Test.YtjikppjlkicgpaaDoorHasLaws
namespace Go.Proofs.YtjikppjlkicgpaaDoor.RowG
open Go.RowKit Kit ValT
set_option linter.unusedVariables false
set_option maxRecDepth 100000
variable {α : Type} {E : Enc α} {w : World} {g n cap : Nat} {L : List α}
/-- An append to a row of one's own in a known block: in place, or in a new block; all else is as it was. -/
theorem run_append_two (ty : TypeId) (h : OwnB E w g n cap L) (ad : Addr) (M : List α) (m c : Nat) (hm : M.length = m) (hM : Rs E w (some ad) M) (hsz : n + m ≤ 2097152) :
    ∃ g' cap' w', (Builtin.append_ #[E.slt, E.slt] ty #[.slice (some ⟨g, 0, none⟩) n cap, .slice (some ad) m c]).run Tryd.prog w = .ok (.slice (some ⟨g', 0, none⟩) (n + m) cap') w' ∧ OwnB E w' g' (n + m) cap' (L ++ M) ∧ (g' = g ∨ g' = w.heap.size) ∧ (∀ k, k < w.heap.size → k ≠ g → w'.heap[k]? = w.heap[k]?) ∧ w.heap.size ≤ w'.heap.size ∧ (∀ B w0, Below B w0 w → B ≤ g → B ≤ w.heap.size → Below B w0 w') := by
  rcases Nat.lt_or_ge cap (n + m) with hc | hc
  · obtain ⟨i0, hi0, hz0, hz1, hzb⟩ := info_parts E.info
    have hO := id h
    obtain ⟨h1, h2, cur, h3, h4, h5, h6⟩ := h
    have hcl : ∀ {r : Option Addr} {X : List α}, Rs E w r X → ∀ a, r = some a → ∀ j u, (flat E X)[j]? = some u → w.cell? (a.add j) = some u := fun {r X} hR a ha j u hu => by
      have hj : j < X.length * E.sz := by rw [← flat_len E X]; exact (List.getElem?_eq_some_iff.1 hu).1
      have h0 : 0 < X.length := by
        rcases Nat.eq_zero_or_pos X.length with h0 | h0
        · rw [h0, Nat.zero_mul] at hj; omega
        · exact h0
      obtain ⟨b, off, e, -, hcc⟩ := hR h0
      rw [ha] at e
      injection e with e
      subst e
      rw [← hu, Addr.add_lit]
      exact hcc j hj
    have h64 := E.by64
    have hb1 : (n + m) * i0.bytes ≤ 2097152 * 256 := Nat.mul_le_mul (by omega) (by omega)
    have hr := run_append_grow (P := Tryd.prog) w E.slt ty E.ty i0 E.zero E.und hi0 hz0 ⟨g, 0, none⟩ n cap (flat E L) (by rw [hz1, flat_len, h1]) (hcl hO.rs _ rfl) ad m c (flat E M) (by rw [hz1, flat_len, hm]) (hcl hM _ rfl) hc (by omega) (growslice_fits hc (by omega))
    have hge := grownCap_ge w (n + m) cap E.ty
    have hle := grownCap_le_maxLen w (n + m) cap E.ty (by unfold maxLen; omega)
    unfold maxLen at hle
    have hfl : (flat E L).length = n * E.sz := by rw [flat_len, h1]
    have hfm : (flat E M).length = m * E.sz := by rw [flat_len, hm]
    have hadd : n * E.sz + m * E.sz = (n + m) * E.sz := (Nat.add_mul _ _ _).symm
    refine ⟨_, _, _, hr, ⟨by rw [List.length_append]; omega, hge, _, heap_alloc_last w.drew _, by omega, ?_, ?_⟩, Or.inr rfl, fun k hk _ => ((Below.refl w.heap.size w).drew.alloc (Nat.le_refl _) _).block k hk, by simp, fun B w0 hb _ hB => hb.drew.alloc hB _⟩
    · simp only [Array.size_append, List.size_toArray, size_zeroCells, E.zlen, hfl, hfm, ← Nat.add_mul]
      congr 1
      omega
    · simp only [Array.toList_append, List.append_assoc]
      rw [← List.append_assoc, flat_app, List.take_append_of_le_length (by simp [hfl, hfm]; omega), List.take_of_length_le (by simp [hfl, hfm]; omega)]
  · obtain ⟨w', hr, hI⟩ := run_append_in (E := E) ty h ad M m c hm hM hc
    exact ⟨g, cap, w', hr, hI.ow, Or.inl rfl, fun k _ hk => hI.ot k hk, by rw [hI.sz]; exact Nat.le_refl _, fun B w0 hb hB _ => hI.bl B w0 hb hB⟩

end Go.Proofs.YtjikppjlkicgpaaDoor.RowG
namespace Go.Proofs.YtjikppjlkicgpaaDoor.HasL
open Go.RowKit Kit StrT RowG BOrd ValT StoT ReplyT ReplyMath ValM BytesIn DoT Low LstT HasT NumL NumW NumMath HasM SaidT RefR DoV LawK
open Go.Op (bytesLess)
set_option linter.unusedVariables false
set_option maxRecDepth 100000

def nmB (i : Nat) : ByteArray := ⟨#[UInt8.ofNat (97 + i)]⟩
def nmT (i : Nat) : List UInt8 := [UInt8.ofNat (97 + i)]
theorem nmB_T (i : Nat) : (nmB i).data.toList = nmT i := rfl
theorem nm_inj : ∀ i, i < 8 → ∀ j, j < 8 → nmT i = nmT j → i = j := by decide +kernel
theorem nm_cut : ∀ i, i < 8 → (⟨#[97, 98, 99, 100, 101, 102, 103, 104]⟩ : ByteArray).extract i (i + 1) = nmB i := by decide +kernel
theorem nm_slice (i : Nat) (hi : i < 8) (W : World) : (Instr.slice 9 (.string ⟨#[97, 98, 99, 100, 101, 102, 103, 104]⟩) (some (.int .i64 (i : Int))) (some (.int .i64 ((i : Int) + 1))) none).run Tryd.prog W = .ok (.string (nmB i)) W := by
  have h := run_slice_string (P := Tryd.prog) (w := W) 9 ⟨#[97, 98, 99, 100, 101, 102, 103, 104]⟩ .i64 .i64 (i : Int) ((i : Int) + 1) Tryd.underlying9 (by omega) (by omega) (by show (i : Int) + 1 ≤ 8; omega)
  rw [h, show ((i : Nat) : Int).toNat = i by omega, show ((i : Int) + 1).toNat = i + 1 by omega, nm_cut i hi]
/-- Pairs set, one behind the other. -/
def turnL (vl : Nat → List UInt8) (I : List Nat) : List Pr := I.foldl (fun H i => setP H (nmT i) (vl i)) []
theorem turn_snoc (vl : Nat → List UInt8) (I : List Nat) (i : Nat) : turnL vl (I ++ [i]) = setP (turnL vl I) (nmT i) (vl i) := by
  unfold turnL
  rw [List.foldl_append]
  rfl
theorem snoc_ind {P : List Nat → Prop} (h0 : P []) (h1 : ∀ I i, P I → P (I ++ [i])) (I : List Nat) : P I := by
  have : ∀ J : List Nat, P J.reverse := fun J => by
    induction J with
    | nil => exact h0
    | cons i J ih =>
      rw [List.reverse_cons]
      exact h1 _ _ ih
  rw [← List.reverse_reverse I]
  exact this _
theorem turn_up (vl : Nat → List UInt8) (I : List Nat) : Up (turnL vl I) := by
  refine snoc_ind (P := fun I => Up (turnL vl I)) up_nil (fun I i h => ?_) I
  show Up (turnL vl (I ++ [i]))
  rw [turn_snoc]
  exact set_up _ _ h
theorem turn_len (vl : Nat → List UInt8) (I : List Nat) : (turnL vl I).length ≤ I.length := by
  refine snoc_ind (P := fun I => (turnL vl I).length ≤ I.length) (Nat.le_refl _) (fun I i h => ?_) I
  show (turnL vl (I ++ [i])).length ≤ (I ++ [i]).length
  rw [turn_snoc, List.length_append]
  have h1 := set_len (nmT i) (vl i) (turn_up vl I)
  split at h1 <;> (simp only [List.length_cons, List.length_nil]; omega)
theorem turn_get (vl : Nat → List UInt8) (I : List Nat) (hI : ∀ i ∈ I, i < 8) (k : Nat) (hk : k < 8) : getP (turnL vl I) (nmT k) = if k ∈ I then some (vl k) else none := by
  revert hI
  refine snoc_ind (P := fun I => (∀ i ∈ I, i < 8) → getP (turnL vl I) (nmT k) = if k ∈ I then some (vl k) else none) (fun _ => by simp [turnL, getP]) (fun I i h hI => ?_) I
  rw [turn_snoc]
  have h1 := h (fun j hj => hI j (List.mem_append_left _ hj))
  by_cases e : k = i
  · subst e
    rw [get_set_same, if_pos (by simp)]
  · rw [get_set_other _ _ _ (fun e2 => e (nm_inj k hk i (hI i (by simp)) e2)), h1]
    simp [e]
theorem turn_none (vl : Nat → List UInt8) (I : List Nat) (n : List UInt8) (h : ∀ i ∈ I, nmT i ≠ n) : getP (turnL vl I) n = none := by
  revert h
  refine snoc_ind (P := fun I => (∀ i ∈ I, nmT i ≠ n) → getP (turnL vl I) n = none) (fun _ => rfl) (fun I i h hI => ?_) I
  rw [turn_snoc, get_set_other _ _ _ (fun e => hI i (by simp) e.symm)]
  exact h (fun j hj => hI j (List.mem_append_left _ hj))
theorem turn_same (vl : Nat → List UInt8) (I J : List Nat) (hI : ∀ i ∈ I, i < 8) (hm : ∀ i, i ∈ I ↔ i ∈ J) : turnL vl I = turnL vl J := by
  have hJ : ∀ i ∈ J, i < 8 := fun i h => hI i ((hm i).2 h)
  refine up_ext (turn_up vl I) (turn_up vl J) fun n => ?_
  by_cases h : ∃ i ∈ I, nmT i = n
  · obtain ⟨i, hi, rfl⟩ := h
    rw [turn_get vl I hI i (hI i hi), turn_get vl J hJ i (hI i hi), if_pos hi, if_pos ((hm i).1 hi)]
  · rw [turn_none vl I n (fun i hi e => h ⟨i, hi, e⟩), turn_none vl J n (fun i hi e => h ⟨i, (hm i).2 hi, e⟩)]
theorem turn_full (vl : Nat → List UInt8) : ∀ m, m ≤ 8 → (turnL vl (List.range m)).length = m
  | 0, _ => rfl
  | m + 1, h => by
    have ih := turn_full vl m (by omega)
    have hn : getP (turnL vl (List.range m)) (nmT m) = none := by
      rw [turn_get vl _ (fun i hi => by have := List.mem_range.1 hi; omega) m (by omega), if_neg (by simp)]
    rw [List.range_succ, turn_snoc, set_len _ _ (turn_up vl _), if_pos hn, ih]
theorem turn_mem (vl : Nat → List UInt8) (I : List Nat) : ∀ x ∈ turnL vl I, ∃ i ∈ I, x = ⟨nmT i, vl i⟩ := by
  refine snoc_ind (P := fun I => ∀ x ∈ turnL vl I, ∃ i ∈ I, x = ⟨nmT i, vl i⟩) (fun x hx => by cases hx) (fun I i h x hx => ?_) I
  rw [turn_snoc] at hx
  rcases set_mem hx with e | hx
  · exact ⟨i, by simp, e⟩
  · obtain ⟨j, hj, e⟩ := h x hx
    exact ⟨j, List.mem_append_left _ hj, e⟩
theorem turn_out (vl : Nat → List UInt8) (I : List Nat) : delP (turnL vl I) (I.map nmT) = [] :=
  del_all _ _ fun x hx => by
    obtain ⟨i, hi, rfl⟩ := turn_mem vl I x hx
    exact List.mem_map.2 ⟨i, hi, rfl⟩
def rotL (a m x : Nat) : List Nat := (List.range x).map (fun i => (i + a) % m)
theorem rot_snoc (a m x : Nat) : rotL a m (x + 1) = rotL a m x ++ [(x + a) % m] := by
  unfold rotL
  rw [List.range_succ, List.map_append]
  rfl
theorem rot_all (a m : Nat) (hm : 0 < m) (i : Nat) : i ∈ List.range m ↔ i ∈ rotL a m m := by
  unfold rotL
  rw [List.mem_range, List.mem_map]
  constructor
  · intro h
    refine ⟨(i + (m - a % m)) % m, List.mem_range.2 (Nat.mod_lt _ hm), ?_⟩
    rw [Nat.mod_add_mod]
    have h1 : a % m < m := Nat.mod_lt _ hm
    have h2 : m * (a / m) + a % m = a := Nat.div_add_mod a m
    have h3 : i + (m - a % m) + a = i + m * (a / m + 1) := by rw [Nat.mul_add]; omega
    rw [h3, Nat.add_mul_mod_self_left]
    exact Nat.mod_eq_of_lt h
  · rintro ⟨x, -, rfl⟩
    exact Nat.mod_lt _ hm
theorem turn_row (vl : Nat → List UInt8) (I : List Nat) (i : Nat) (v : List UInt8) (hv : v = vl i) : rowD 0 (turnL vl I) [nmT i, v] = (turnL vl (I ++ [i]), int (newN (getP (turnL vl I) (nmT i)))) := by
  subst hv
  show (setP (turnL vl I) (nmT i) (vl i), _) = _
  rw [turn_snoc]
  rfl
/-- What is cut to 20 bytes. -/
theorem cut20 {S V : ByteArray} (h : V = if S.size ≤ 20 then S else S.extract 0 20) : V.data.toList = S.data.toList.take 20 := by
  subst h
  split
  · rename_i h
    rw [List.take_of_length_le (by rw [str_len]; exact h)]
  · simp [ByteArray.data_extract]
/-- A value laid over another one, field by field, in its block; all other old blocks are as they were. -/
structure Trn (w wr wx : World) (ga : Nat) (p : PV) (d : V) : Prop where
  v : VB wx ga p
  e : p.d = d
  n : ∀ j, p.at_ j → wr.heap.size ≤ j
  o : ∀ j, j < wr.heap.size → j ≠ ga → wx.heap[j]? = wr.heap[j]?
  s : wr.heap.size ≤ wx.heap.size
  b : Below w.heap.size w wx
theorem trn_five {w wr w5 : World} {ga : Nat} {p0 p : PV} {d : V} (hK : VB w5 ga p0) (hI : p.In w5) (hd : p.d = d) (hn : ∀ j, p.at_ j → wr.heap.size ≤ j) (hb : Below wr.heap.size wr w5) (hB : Below w.heap.size w wr) (hga : w.heap.size ≤ ga) (hlt : ga < wr.heap.size) :
    Trn w wr (five w5 ga (.int .u8 p.k) (.string p.S) (.slice p.ql p.nl p.cl) (.slice p.qh p.nh p.ch) (.slice p.qz p.nz p.cz)) ga p d :=
  ⟨VB.five hK hI (fun j hj => by have := hn j hj; omega), hd, hn, fun j hj hne => (five_other _ _ _ _ _ _ _ _ hne).trans (hb.block j hj), by simpa [five] using hb.size, five_below (hB.trans (hb.mono hB.size)) hga _ _ _ _ _⟩
theorem Trn.vb {w wr wx : World} {ga gb : Nat} {p r : PV} {d : V} (h : Trn w wr wx ga p d) (hr : VB wr gb r) (hne : gb ≠ ga) (hro : ∀ j, r.at_ j → j ≠ ga) : VB wx gb r :=
  ⟨(h.o gb hr.lt hne).trans hr.hp, hr.pv.same h.s (fun j hj => h.o j (hr.rows j hj) (hro j hj))⟩
theorem Trn.ob {α : Type} {E : Enc α} {w wr wx : World} {ga g n cap : Nat} {p : PV} {d : V} {L : List α} (h : Trn w wr wx ga p d) (ho : OwnB E wr g n cap L) (hne : g ≠ ga) : OwnB E wx g n cap L := by
  have hlt := ho.lt
  obtain ⟨h1, h2, cur, h3, h4⟩ := ho
  exact ⟨h1, h2, cur, (h.o g hlt hne).trans h3, h4⟩
theorem Trn.ss {w wr wx : World} {ga : Nat} {p : PV} {d : V} (h : Trn w wr wx ga p d) : True := trivial

end Go.Proofs.YtjikppjlkicgpaaDoor.HasL
