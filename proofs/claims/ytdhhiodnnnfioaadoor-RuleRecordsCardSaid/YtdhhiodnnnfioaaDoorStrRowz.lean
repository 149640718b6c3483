/-
  Rows of texts: in memory, appended to.
-/
import Derived.Test.YtdhhiodnnnfioaaDoorChecked
import Derived.Test.YtdhhiodnnnfioaaDoorKit
import Derived.OwnWalk
import Derived.Laws.OwnMore
import Derived.Laws.Slices
import Derived.Lib.Hide
import Derived.Laws.AppendOwnNone
namespace Go.Proofs.YtdhhiodnnnfioaaDoor.StrT
open Go.RowKit Kit
set_option linter.unusedVariables false
set_option maxRecDepth 100000

def sv (L : List (List UInt8)) : List Value := L.map fun l => .string ⟨l.toArray⟩
theorem sv_length (L : List (List UInt8)) : (sv L).length = L.length := by simp [sv]
theorem sv_app (L R : List (List UInt8)) : sv (L ++ R) = sv L ++ sv R := by simp [sv]
theorem sv_at (L : List (List UInt8)) (j : Nat) (h : j < L.length) : (sv L)[j]? = some (.string ⟨L[j].toArray⟩) := by simp [sv, h]
def Ss (w : World) (q : Option Addr) (L : List (List UInt8)) : Prop :=
  0 < L.length → ∃ b off, q = some ⟨b, off, none⟩ ∧ b < w.heap.size ∧ ∀ j (h : j < L.length), w.cell? ⟨b, off + j, none⟩ = some (.string ⟨L[j].toArray⟩)
theorem Ss.keep {w w' : World} {q : Option Addr} {L : List (List UInt8)} (h : Ss w q L) (hb : Below w.heap.size w w') : Ss w' q L := by
  intro h0
  obtain ⟨b, off, hp, hlt, hc⟩ := h h0
  exact ⟨b, off, hp, Nat.lt_of_lt_of_le hlt hb.size, fun j hj => by rw [hb.cell (p := ⟨b, off + j, none⟩) hlt]; exact hc j hj⟩
theorem Ss.take {w : World} {q : Option Addr} {L : List (List UInt8)} (h : Ss w q L) (n : Nat) : Ss w q (L.take n) := by
  intro h0
  rw [List.length_take] at h0
  obtain ⟨b, off, hp, hlt, hc⟩ := h (by omega)
  refine ⟨b, off, hp, hlt, fun j hj => ?_⟩
  rw [List.length_take] at hj
  rw [hc j (by omega)]
  simp
theorem str_parts : (Tryd.prog.info? 9).map (fun i => (i.zero, i.size, i.bytes)) = some (some (.string ByteArray.empty), 1, 16) := by kernel_rfl
theorem sv_one (L : List (List UInt8)) : ∀ u ∈ sv L, u.oneCell' = true := by
  intro u hu
  obtain ⟨c, _, rfl⟩ := List.mem_map.1 hu
  rfl

def OwnS (base : Nat) (w : World) (v : Value) (L : List (List UInt8)) : Prop := w.ownsRow base 9 1 v L.length (sv L)
theorem OwnS.new (w : World) : OwnS w.heap.size (w.alloc (.cells #[] 9)) (.slice (some ⟨w.heap.size, 0, none⟩) 0 0) [] :=
  World.ownsRow_lit w #[] 0 (Nat.le_refl _) (by simp [maxLen]) rfl
theorem OwnS.ss {base : Nat} {w : World} {v : Value} {L : List (List UInt8)} (h : OwnS base w v L) : ∃ q c, v = .slice q L.length c ∧ Ss w q L ∧ L.length ≤ c ∧ c ≤ 9223372036854775807 ∧ (q = none → c = 0) := by
  rcases h.2 with ⟨rfl, h0⟩ | ⟨g, cap, cur, rfl, hgb, hh, hc, hm, hsz, htake⟩
  · obtain rfl : L = [] := List.eq_nil_of_length_eq_zero h0
    exact ⟨none, 0, rfl, fun h => absurd h (by simp), by simp, by omega, fun _ => rfl⟩
  · unfold maxLen at hm
    refine ⟨_, cap, rfl, fun h0 => ⟨g, 0, rfl, ?_, fun j hj => ?_⟩, hc, by omega, fun h => by cases h⟩
    · rcases Nat.lt_or_ge g w.heap.size with h' | h'
      · exact h'
      · rw [Array.getElem?_eq_none h'] at hh; cases hh
    · rw [Nat.zero_add, World.ownsRow.cellAt h j (by omega), sv_at L j hj]
theorem wpList_append_s {w0 w : World} {ops : Array Oper} {rest : List Oper} {o : Oper} {a : Act} {Q : Exit → Act → World → Prop} (hgd : o.guard = none) (s x : Operand)
    (ho : o.op = .call { callee := .builtin .append, args := #[s, x], argTypes := #[34, 34] })
    (v : Value) (L : List (List UInt8)) (hs : a.eval s = v) (hown : OwnS w0.heap.size w v L) (hb : Below w0.heap.size w0 w)
    (g : Nat) (S : ByteArray) (l : List UInt8) (c : Nat) (hx : a.eval x = .slice (some ⟨g, 0, none⟩) 1 c) (hl : S.data.toList = l) (hg : w.cell? ⟨g, 0, none⟩ = some (.string S)) (hsz : L.length ≤ 1048576)
    (h : ∀ v' w', OwnS w0.heap.size w' v' (L ++ [l]) → Below w0.heap.size w0 w' → wpList Tryd.prog ops Q rest (a.put o.dst v') w') : wpList Tryd.prog ops Q (o :: rest) a w := by
  obtain ⟨i0, hi0, hz0, hz1, hzb⟩ := info_parts str_parts
  refine wpList_append_own w hgd s x 34 ho w0.heap.size 9 i0 (.string ByteArray.empty) 1 16 Tryd.underlying34 hi0 hz0 hz1 hzb rfl (by decide) v L.length (sv L) hs hown ⟨g, 0, none⟩ 1 c [.string S] hx rfl (fun j u hu => ?_) (fun u hu => ?_) (by unfold maxLen; omega) (by omega) hb.size ?_
  · match j, hu with
    | 0, hu =>
      simp at hu
      subst hu
      rw [Addr.add_lit]
      exact hg
    | j + 1, hu => simp at hu
  · simp at hu
    subst hu
    rfl
  · intro v' w' h1 h2 _
    refine h v' w' ?_ (hb.grown h2 hb.size (own_base hown))
    unfold OwnS
    rw [List.length_append, sv_app]
    have e : sv [l] = [.string S] := by
      subst hl
      rfl
    rw [e]
    exact h1

theorem owns_keep {base size n : Nat} {e : TypeId} {w w' : World} {v : Value} {xs : List Value} (h : w.ownsRow base e size v n xs) (hb : Below w.heap.size w w') : w'.ownsRow base e size v n xs := by
  refine ⟨h.1, ?_⟩
  rcases h.2 with ⟨e, h0⟩ | ⟨g, cap, cur, e, hg, hh, h1, h2, h3, h4⟩
  · exact Or.inl ⟨e, h0⟩
  · have hlt : g < w.heap.size := by
      rcases Nat.lt_or_ge g w.heap.size with h' | h'
      · exact h'
      · rw [Array.getElem?_eq_none h'] at hh; cases hh
    exact Or.inr ⟨g, cap, cur, e, hg, by rw [hb.block g hlt]; exact hh, h1, h2, h3, h4⟩
theorem OwnS.keep {base : Nat} {w w' : World} {v : Value} {L : List (List UInt8)} (h : OwnS base w v L) (hb : Below w.heap.size w w') : OwnS base w' v L := owns_keep h hb
theorem ownS_low {b b' : Nat} {w : World} {v : Value} {L : List (List UInt8)} (h : OwnS b w v L) (hb : b' ≤ b) : OwnS b' w v L := by
  refine ⟨h.1, ?_⟩
  rcases h.2 with h1 | ⟨g, cap, cur, e, hg, h2⟩
  · exact Or.inl h1
  · exact Or.inr ⟨g, cap, cur, e, Nat.le_trans hb hg, h2⟩
def partAt (p : Option Addr) (c lo : Nat) : Option Addr := if c = lo then p else p.map (·.add (lo * 1))
theorem elem_str : Tryd.prog.underlying 34 = some (.slice (Tryd.prog.elem 34)) := by kernel_rfl
theorem size_str (w : World) : (Go.sizeOf (Tryd.prog.elem 34)).run Tryd.prog w = .ok 1 w := by kernel_rfl
theorem sl_hs (p : Option Addr) (n c hi : Nat) (h1 : hi ≤ c) (W : World) :
    (Instr.slice 34 (.slice p n c) none (some (.int .i64 (hi : Int))) none).run Tryd.prog W = .ok (.slice (partAt p c 0) hi c) W := by
  rw [run_slice_h (P := Tryd.prog) W 34 p n c elem_str .i64 (hi : Int) (by omega) (by omega), size_str]
  simp [Result.andThen, sliced, partAt]
theorem partAt_ss {w : World} {p : Option Addr} {L : List (List UInt8)} {c : Nat} (h : Ss w p L) (hc : L.length ≤ c) (hi : Nat) : Ss w (partAt p c 0) (L.take hi) := by
  intro h0
  obtain ⟨b, off, e, hlt, hcell⟩ := h.take hi h0
  refine ⟨b, off, ?_, hlt, hcell⟩
  subst e
  unfold partAt
  split
  · rfl
  · simp [Addr.add]

end Go.Proofs.YtdhhiodnnnfioaaDoor.StrT
namespace Go.Proofs.YtdhhiodnnnfioaaDoor.StrT
open Go.RowKit Kit
set_option linter.unusedVariables false
set_option maxRecDepth 100000

theorem wpList_append_ss {w0 w : World} {ops : Array Oper} {rest : List Oper} {o : Oper} {a : Act} {Q : Exit → Act → World → Prop} (hgd : o.guard = none) (s x : Operand)
    (ho : o.op = .call { callee := .builtin .append, args := #[s, x], argTypes := #[34, 34] })
    (v : Value) (L : List (List UInt8)) (hs : a.eval s = v) (hown : OwnS w0.heap.size w v L) (hb : Below w0.heap.size w0 w)
    (q : Option Addr) (M : List (List UInt8)) (m c : Nat) (hx : a.eval x = .slice q m c) (hm : M.length = m) (hM : Ss w q M) (hnil : q = none → c = 0) (hsz : L.length + m ≤ 2097152) (Z : List (List UInt8)) (hZ : Z = L ++ M)
    (h : ∀ v' w', OwnS w0.heap.size w' v' Z → Below w0.heap.size w0 w' → wpList Tryd.prog ops Q rest (a.put o.dst v') w') : wpList Tryd.prog ops Q (o :: rest) a w := by
  subst hZ hm
  obtain ⟨i0, hi0, hz0, hz1, hzb⟩ := info_parts str_parts
  cases q with
  | none =>
    obtain rfl : M = [] := by
      cases M with
      | nil => rfl
      | cons y r => obtain ⟨b, off, e, -⟩ := hM (by simp); cases e
    obtain rfl := hnil rfl
    refine wpList_append_own_none hgd s x 34 ho w0.heap.size 9 i0 1 Tryd.underlying34 hi0 v L.length (sv L) hs hown hx ?_
    refine h v w ?_ hb
    rw [List.append_nil]
    exact hown
  | some ad =>
    refine wpList_append_own w hgd s x 34 ho w0.heap.size 9 i0 (.string ByteArray.empty) 1 16 Tryd.underlying34 hi0 hz0 hz1 hzb rfl (by decide) v L.length (sv L) hs hown ad M.length c (sv M) hx (by rw [sv_length, Nat.mul_one]) (fun j u hu => ?_) (sv_one M) (by unfold maxLen; omega) (by omega) hb.size ?_
    · have hj : j < M.length := by rw [← sv_length M]; exact (List.getElem?_eq_some_iff.1 hu).1
      obtain ⟨b, off, e, -, hc⟩ := hM (by omega)
      injection e with e
      subst e
      rw [sv_at M j hj] at hu
      rw [← hu]
      rw [Addr.add_lit]
      exact hc j hj
    · intro v' w' h1 h2 _
      refine h v' w' ?_ (hb.grown h2 hb.size (own_base hown))
      unfold OwnS
      rw [List.length_append, sv_app]
      exact h1
theorem partAt_nought (p : Option Addr) (c : Nat) : partAt p c 0 = p := by
  unfold partAt
  split
  · rfl
  · cases p with
    | none => rfl
    | some a => simp [Addr.add]
/-- The part behind the first ones. -/
theorem Ss.drop {w : World} {q : Option Addr} {L : List (List UInt8)} (h : Ss w q L) (lo : Nat) (hlo : lo ≤ L.length) (c : Nat) (hc : L.length ≤ c) : Ss w (partAt q c lo) (L.drop lo) := by
  intro h0
  rw [List.length_drop] at h0
  obtain ⟨b, off, e, hlt, hcell⟩ := h (by omega)
  subst e
  refine ⟨b, off + lo, ?_, hlt, fun j hj => ?_⟩
  · unfold partAt
    rw [if_neg (by omega)]
    simp [Addr.add]
  · rw [List.length_drop] at hj
    rw [Nat.add_assoc, hcell (lo + j) (by omega)]
    simp
theorem sl_l (p : Option Addr) (n c lo : Nat) (h1 : lo ≤ n) (h2 : n ≤ c) (W : World) :
    (Instr.slice 34 (.slice p n c) (some (.int .i64 (lo : Int))) none none).run Tryd.prog W = .ok (.slice (partAt p c lo) (n - lo) (c - lo)) W := by
  rw [run_slice_l (P := Tryd.prog) W 34 p n c elem_str .i64 (lo : Int) (by omega) (by omega), size_str]
  simp [Result.andThen, sliced, partAt]

/-- An append of one text, as one step of a region that draws its order. -/
theorem step_append_s {w0 w : World} {ops : Array Oper} {o : Oper} {a : Act} {K : Act → World → Prop} {Q : Exit → Act → World → Prop} {E : Prop} (hgd : o.guard = none) (s x : Operand)
    (ho : o.op = .call { callee := .builtin .append, args := #[s, x], argTypes := #[34, 34] })
    (v : Value) (L : List (List UInt8)) (hs : a.eval s = v) (hown : OwnS w0.heap.size w v L) (hb : Below w0.heap.size w0 w)
    (g : Nat) (S : ByteArray) (l : List UInt8) (c : Nat) (hx : a.eval x = .slice (some ⟨g, 0, none⟩) 1 c) (hl : S.data.toList = l) (hg : w.cell? ⟨g, 0, none⟩ = some (.string S)) (hsz : L.length ≤ 1048576)
    (h : ∀ v' w', OwnS w0.heap.size w' v' (L ++ [l]) → Below w0.heap.size w0 w' → K (a.put o.dst v') w') : if Region.wanted o (yielded ops a.tmps) = true then Oper.wp Tryd.prog o a w K Q else E := by
  rw [if_pos (by simp [Region.wanted, hgd])]
  obtain ⟨i0, hi0, hz0, hz1, hzb⟩ := info_parts str_parts
  refine wp_append_own w s x 34 ho w0.heap.size 9 i0 (.string ByteArray.empty) 1 16 Tryd.underlying34 hi0 hz0 hz1 hzb rfl (by decide) v L.length (sv L) hs hown ⟨g, 0, none⟩ 1 c [.string S] hx rfl (fun j u hu => ?_) (fun u hu => ?_) (by unfold maxLen; omega) (by omega) hb.size ?_
  · match j, hu with
    | 0, hu =>
      simp at hu
      subst hu
      rw [Addr.add_lit]
      exact hg
    | j + 1, hu => simp at hu
  · simp at hu
    subst hu
    rfl
  · intro v' w' h1 h2 _
    refine h v' w' ?_ (hb.grown h2 hb.size (own_base hown))
    unfold OwnS
    rw [List.length_append, sv_app]
    have e : sv [l] = [.string S] := by
      subst hl
      rfl
    rw [e]
    exact h1
theorem ownS_drew {base : Nat} {w : World} {v : Value} {L : List (List UInt8)} (h : OwnS base w v L) : OwnS base w.drew v L := h
theorem below_drew {B : Nat} {w w' : World} (h : Below B w w') : Below B w w'.drew := h.drew

end Go.Proofs.YtdhhiodnnnfioaaDoor.StrT
