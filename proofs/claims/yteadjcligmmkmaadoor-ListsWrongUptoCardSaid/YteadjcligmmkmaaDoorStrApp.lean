/-
  Appending a row of texts to a row of texts of the call's own; nil let in.
-/
import Derived.Test.YteadjcligmmkmaaDoorStrRows
import Derived.Laws.AppendOwnNone
namespace Go.Proofs.YteadjcligmmkmaaDoor.StrT
open Go.RowKit Kit
set_option linter.unusedVariables false
set_option maxRecDepth 100000

theorem wpList_append_ss {w0 w : World} {ops : Array Oper} {rest : List Oper} {o : Oper} {a : Act} {Q : Exit → Act → World → Prop} (hgd : o.guard = none) (s x : Operand)
    (ho : o.op = .call { callee := .builtin .append, args := #[s, x], argTypes := #[22, 22] })
    (v : Value) (L : List (List UInt8)) (hs : a.eval s = v) (hown : OwnS w0.heap.size w v L) (hb : Below w0.heap.size w0 w)
    (q : Option Addr) (M : List (List UInt8)) (m c : Nat) (hx : a.eval x = .slice q m c) (hm : M.length = m) (hM : Ss w q M) (hnil : q = none → c = 0) (hsz : L.length + m ≤ 2097152) (Z : List (List UInt8)) (hZ : Z = L ++ M)
    (h : ∀ v' w', OwnS w0.heap.size w' v' Z → Below w0.heap.size w0 w' → wpList Tryd.prog ops Q rest (a.put o.dst v') w') : wpList Tryd.prog ops Q (o :: rest) a w := by
  subst hZ hm
  obtain ⟨i0, hi0, hz0, hz1, hzb⟩ := info_parts str_parts
  cases q with
  | none =>
    obtain rfl : M = [] := by
      cases M with
      | nil => rfl
      | cons y r => obtain ⟨b, off, e, -⟩ := hM (by simp); cases e
    obtain rfl := hnil rfl
    refine wpList_append_own_none hgd s x 22 ho w0.heap.size 9 i0 1 Tryd.underlying22 hi0 v L.length (sv L) hs hown hx ?_
    refine h v w ?_ hb
    rw [List.append_nil]
    exact hown
  | some ad =>
    refine wpList_append_own w hgd s x 22 ho w0.heap.size 9 i0 (.string ByteArray.empty) 1 16 Tryd.underlying22 hi0 hz0 hz1 hzb rfl (by decide) v L.length (sv L) hs hown ad M.length c (sv M) hx (by rw [sv_length, Nat.mul_one]) (fun j u hu => ?_) (sv_one M) (by unfold maxLen; omega) (by omega) hb.size ?_
    · have hj : j < M.length := by rw [← sv_length M]; exact (List.getElem?_eq_some_iff.1 hu).1
      obtain ⟨b, off, e, -, hc⟩ := hM (by omega)
      injection e with e
      subst e
      rw [sv_at M j hj] at hu
      rw [← hu]
      rw [Addr.add_lit]
      exact hc j hj
    · intro v' w' h1 h2 _
      refine h v' w' ?_ (hb.grown h2 hb.size (own_base hown))
      unfold OwnS
      rw [List.length_append, sv_app]
      exact h1
theorem partAt_nought (p : Option Addr) (c : Nat) : partAt p c 0 = p := by
  unfold partAt
  split
  · rfl
  · cases p with
    | none => rfl
    | some a => simp [Addr.add]
/-- The part behind the first ones. -/
theorem Ss.drop {w : World} {q : Option Addr} {L : List (List UInt8)} (h : Ss w q L) (lo : Nat) (hlo : lo ≤ L.length) (c : Nat) (hc : L.length ≤ c) : Ss w (partAt q c lo) (L.drop lo) := by
  intro h0
  rw [List.length_drop] at h0
  obtain ⟨b, off, e, hlt, hcell⟩ := h (by omega)
  subst e
  refine ⟨b, off + lo, ?_, hlt, fun j hj => ?_⟩
  · unfold partAt
    rw [if_neg (by omega)]
    simp [Addr.add]
  · rw [List.length_drop] at hj
    rw [Nat.add_assoc, hcell (lo + j) (by omega)]
    simp
theorem sl_l (p : Option Addr) (n c lo : Nat) (h1 : lo ≤ n) (h2 : n ≤ c) (W : World) :
    (Instr.slice 22 (.slice p n c) (some (.int .i64 (lo : Int))) none none).run Tryd.prog W = .ok (.slice (partAt p c lo) (n - lo) (c - lo)) W := by
  rw [run_slice_l (P := Tryd.prog) W 22 p n c elem_str .i64 (lo : Int) (by omega) (by omega), size_str]
  simp [Result.andThen, sliced, partAt]

/-- An append of one text, as one step of a region that draws its order. -/
theorem step_append_s {w0 w : World} {ops : Array Oper} {o : Oper} {a : Act} {K : Act → World → Prop} {Q : Exit → Act → World → Prop} {E : Prop} (hgd : o.guard = none) (s x : Operand)
    (ho : o.op = .call { callee := .builtin .append, args := #[s, x], argTypes := #[22, 22] })
    (v : Value) (L : List (List UInt8)) (hs : a.eval s = v) (hown : OwnS w0.heap.size w v L) (hb : Below w0.heap.size w0 w)
    (g : Nat) (S : ByteArray) (l : List UInt8) (c : Nat) (hx : a.eval x = .slice (some ⟨g, 0, none⟩) 1 c) (hl : S.data.toList = l) (hg : w.cell? ⟨g, 0, none⟩ = some (.string S)) (hsz : L.length ≤ 1048576)
    (h : ∀ v' w', OwnS w0.heap.size w' v' (L ++ [l]) → Below w0.heap.size w0 w' → K (a.put o.dst v') w') : if Region.wanted o (yielded ops a.tmps) = true then Oper.wp Tryd.prog o a w K Q else E := by
  rw [if_pos (by simp [Region.wanted, hgd])]
  obtain ⟨i0, hi0, hz0, hz1, hzb⟩ := info_parts str_parts
  refine wp_append_own w s x 22 ho w0.heap.size 9 i0 (.string ByteArray.empty) 1 16 Tryd.underlying22 hi0 hz0 hz1 hzb rfl (by decide) v L.length (sv L) hs hown ⟨g, 0, none⟩ 1 c [.string S] hx rfl (fun j u hu => ?_) (fun u hu => ?_) (by unfold maxLen; omega) (by omega) hb.size ?_
  · match j, hu with
    | 0, hu =>
      simp at hu
      subst hu
      rw [Addr.add_lit]
      exact hg
    | j + 1, hu => simp at hu
  · simp at hu
    subst hu
    rfl
  · intro v' w' h1 h2 _
    refine h v' w' ?_ (hb.grown h2 hb.size (own_base hown))
    unfold OwnS
    rw [List.length_append, sv_app]
    have e : sv [l] = [.string S] := by
      subst hl
      rfl
    rw [e]
    exact h1
theorem ownS_drew {base : Nat} {w : World} {v : Value} {L : List (List UInt8)} (h : OwnS base w v L) : OwnS base w.drew v L := h
theorem below_drew {B : Nat} {w w' : World} (h : Below B w w') : Below B w w'.drew := h.drew

end Go.Proofs.YteadjcligmmkmaaDoor.StrT
