/-
  Keys that a request needs: rows of them as they lie in memory (a key, whether it is read, whether it is written), of the call's own, appended to.
-/
import Derived.Test.YtonoelpmmjnpeaaStrRows
namespace Go.Proofs.Ytonoelpmmjnpeaa.UseT
open Go.RowKit Kit StrT
set_option linter.unusedVariables false
set_option maxRecDepth 100000

/-- A key, whether it is read, whether it is written. -/
structure U where
  key : List UInt8
  r : Bool
  w : Bool
def uv (u : U) : List Value := [.string ⟨u.key.toArray⟩, .bool u.r, .bool u.w]
def fv (L : List U) : List Value := (L.map uv).flatten
theorem fv_len : ∀ L : List U, (fv L).length = L.length * 3
  | [] => rfl
  | c :: L => by
    have ih := fv_len L
    unfold fv at ih ⊢
    rw [List.map_cons, List.flatten_cons, List.length_append, ih, List.length_cons]
    show 3 + L.length * 3 = _
    omega
theorem fv_app (L R : List U) : fv (L ++ R) = fv L ++ fv R := by simp [fv]
theorem fv_at : ∀ (L : List U) (i : Nat) (h : i < L.length) (d : Nat), d < 3 → (fv L)[i * 3 + d]? = (uv L[i])[d]?
  | c :: L, 0, _, d, hd => by
    show (uv c ++ (L.map uv).flatten)[0 * 3 + d]? = _
    rw [Nat.zero_mul, Nat.zero_add, List.getElem?_append_left (show d < (uv c).length from hd)]
    rfl
  | c :: L, i + 1, h, d, hd => by
    show (uv c ++ (L.map uv).flatten)[(i + 1) * 3 + d]? = _
    rw [List.getElem?_append_right (show (uv c).length ≤ (i + 1) * 3 + d by show 3 ≤ _; omega), show (i + 1) * 3 + d - (uv c).length = i * 3 + d by show (i + 1) * 3 + d - 3 = _; omega]
    exact fv_at L i (by simpa using h) d hd
theorem fv_one (L : List U) : ∀ u ∈ fv L, u.oneCell' = true := by
  intro u hu
  obtain ⟨x, hx, hux⟩ := List.mem_flatten.1 hu
  obtain ⟨c, -, rfl⟩ := List.mem_map.1 hx
  simp [uv] at hux
  rcases hux with rfl | rfl | rfl <;> rfl
/-- A row of such keys. -/
def Us (w : World) (q : Option Addr) (L : List U) : Prop :=
  0 < L.length → ∃ b off, q = some ⟨b, off, none⟩ ∧ b < w.heap.size ∧ ∀ j, j < L.length * 3 → w.cell? ⟨b, off + j, none⟩ = (fv L)[j]?
theorem Us.keep {w w' : World} {q : Option Addr} {L : List U} (h : Us w q L) (hb : Below w.heap.size w w') : Us w' q L := by
  intro h0
  obtain ⟨b, off, hp, hlt, hc⟩ := h h0
  exact ⟨b, off, hp, Nat.lt_of_lt_of_le hlt hb.size, fun j hj => by rw [hb.cell (p := ⟨b, off + j, none⟩) hlt]; exact hc j hj⟩
theorem Us.cells {w : World} {q : Option Addr} {L : List U} (h : Us w q L) (i : Nat) (hi : i < L.length) : ∃ b off, q = some ⟨b, off, none⟩ ∧ b < w.heap.size ∧
    w.cell? ⟨b, off + i * 3, none⟩ = some (.string ⟨L[i].key.toArray⟩) ∧ w.cell? ⟨b, off + i * 3 + 1, none⟩ = some (.bool L[i].r) ∧ w.cell? ⟨b, off + i * 3 + 2, none⟩ = some (.bool L[i].w) := by
  obtain ⟨b, off, hp, hlt, hc⟩ := h (by omega)
  refine ⟨b, off, hp, hlt, ?_, ?_, ?_⟩
  · rw [hc (i * 3) (by omega)]
    exact fv_at L i hi 0 (by decide)
  · rw [Nat.add_assoc, hc (i * 3 + 1) (by omega)]
    exact fv_at L i hi 1 (by decide)
  · rw [Nat.add_assoc, hc (i * 3 + 2) (by omega)]
    exact fv_at L i hi 2 (by decide)
theorem use_parts : (Try.prog.info? 43).map (fun i => (i.zero, i.size, i.bytes)) = some (some (.agg #[.string ByteArray.empty, .bool false, .bool false]), 3, 24) := by kernel_rfl
theorem use_size : (Try.prog.info? 43).map (·.size) = some 3 := by kernel_rfl
/-- A row of such keys of the call's own. -/
def OwnU (base : Nat) (w : World) (v : Value) (L : List U) : Prop := w.ownsRow base 43 3 v L.length (fv L)
theorem OwnU.new (w : World) : OwnU w.heap.size (w.alloc (.cells #[] 43)) (.slice (some ⟨w.heap.size, 0, none⟩) 0 0) [] :=
  World.ownsRow_lit w #[] 0 (Nat.le_refl _) (by simp [maxLen]) rfl
theorem OwnU.keep {base : Nat} {w w' : World} {v : Value} {L : List U} (h : OwnU base w v L) (hb : Below w.heap.size w w') : OwnU base w' v L := owns_keep h hb
theorem ownU_low {b b' : Nat} {w : World} {v : Value} {L : List U} (h : OwnU b w v L) (hb : b' ≤ b) : OwnU b' w v L := by
  refine ⟨h.1, ?_⟩
  rcases h.2 with h1 | ⟨g, cap, cur, e, hg, h2⟩
  · exact Or.inl h1
  · exact Or.inr ⟨g, cap, cur, e, Nat.le_trans hb hg, h2⟩
/-- What was answered: a row in new memory. -/
def AnsU (base : Nat) (w : World) (v : Value) (L : List U) : Prop :=
  ∃ q c, v = .slice q L.length c ∧ Us w q L ∧ (∀ a, q = some a → base ≤ a.block) ∧ L.length ≤ c ∧ c ≤ 9223372036854775807 ∧ (q = none → c = 0)
theorem OwnU.ans {base : Nat} {w : World} {v : Value} {L : List U} (h : OwnU base w v L) : AnsU base w v L := by
  rcases id h.2 with ⟨rfl, h0⟩ | ⟨g, cap, cur, rfl, hgb, hh, hc, hm, hsz, htake⟩
  · obtain rfl : L = [] := List.eq_nil_of_length_eq_zero h0
    exact ⟨none, 0, rfl, fun h => absurd h (by simp), (fun a h => by cases h), by simp, by omega, fun _ => rfl⟩
  · unfold maxLen at hm
    refine ⟨_, cap, rfl, fun h0 => ⟨g, 0, rfl, ?_, fun j hj => ?_⟩, (fun a ha => by injection ha with ha; subst ha; exact hgb), hc, by omega, fun h => by cases h⟩
    · rcases Nat.lt_or_ge g w.heap.size with h' | h'
      · exact h'
      · rw [Array.getElem?_eq_none h'] at hh; cases hh
    · rw [Nat.zero_add]
      exact World.ownsRow.cellAt h j hj
theorem AnsU.keep {base : Nat} {w w' : World} {v : Value} {L : List U} (h : AnsU base w v L) (hb : Below w.heap.size w w') : AnsU base w' v L := by
  obtain ⟨q, c, hv, hS, h1⟩ := h
  exact ⟨q, c, hv, hS.keep hb, h1⟩
/-- Rows just laid. -/
theorem us_lit (w : World) (L : List U) (W : World) (k : Nat) (hW : W = w.alloc (.cells (fv L).toArray 43)) (hk : k = w.heap.size) (n : Nat) (hn : n = L.length) (hm : n ≤ 1048576) : AnsU w.heap.size W (.slice (some ⟨k, 0, none⟩) n n) L := by
  subst hW hk hn
  have h : (w.alloc (.cells (fv L).toArray 43)).ownsRow w.heap.size 43 3 (.slice (some ⟨w.heap.size, 0, none⟩) L.length L.length) L.length (fv L).toArray.toList :=
    World.ownsRow_lit w (fv L).toArray L.length (Nat.le_refl _) (by unfold maxLen; omega) (by simp [fv_len])
  exact OwnU.ans (show OwnU w.heap.size _ _ L from by simpa [OwnU] using h)
theorem wpList_append_u {w0 w : World} {ops : Array Oper} {rest : List Oper} {o : Oper} {a : Act} {Q : Exit → Act → World → Prop} (hgd : o.guard = none) (s x : Operand)
    (ho : o.op = .call { callee := .builtin .append, args := #[s, x], argTypes := #[25, 25] })
    (v : Value) (L : List U) (hs : a.eval s = v) (hown : OwnU w0.heap.size w v L) (hb : Below w0.heap.size w0 w)
    (g : Nat) (u : U) (c : Nat) (hx : a.eval x = .slice (some ⟨g, 0, none⟩) 1 c) (hg : ∀ j, j < 3 → w.cell? ⟨g, j, none⟩ = (uv u)[j]?) (hsz : L.length ≤ 1048576)
    (h : ∀ v' w', OwnU w0.heap.size w' v' (L ++ [u]) → Below w0.heap.size w0 w' → wpList Try.prog ops Q rest (a.put o.dst v') w') : wpList Try.prog ops Q (o :: rest) a w := by
  obtain ⟨i0, hi0, hz0, hz1, hzb⟩ := info_parts use_parts
  refine wpList_append_own w hgd s x 25 ho w0.heap.size 43 i0 _ 3 24 Try.underlying25 hi0 hz0 hz1 hzb rfl (by decide) v L.length (fv L) hs hown ⟨g, 0, none⟩ 1 c (uv u) hx rfl (fun j z hz => ?_) (fun z hz => ?_) (by unfold maxLen; omega) (by omega) hb.size ?_
  · have hj : j < 3 := (List.getElem?_eq_some_iff.1 hz).1
    rw [Addr.add_lit]
    first
      | rw [hg j hj]; exact hz
      | rw [Nat.zero_add, hg j hj]; exact hz
  · exact fv_one [u] z (by simpa [fv] using hz)
  · intro v' w' h1 h2 _
    refine h v' w' ?_ (hb.grown h2 hb.size (own_base hown))
    unfold OwnU
    rw [List.length_append, fv_app]
    have e : fv [u] = uv u := by simp [fv]
    rw [e]
    exact h1

end Go.Proofs.Ytonoelpmmjnpeaa.UseT
