/-
  Rows of records of any one kind: in memory, of the call's own, appended to, parts, copies.
-/
import Derived.Test.YtodpocciimbjbaaDoorChecked
import Derived.Test.YtodpocciimbjbaaDoorKit
import Derived.OwnWalk
import Derived.Laws.OwnMore
import Derived.Laws.Slices
import Derived.Laws.Rows
import Derived.Laws.Tables
import Derived.Deep.WholeRow
import Derived.Laws.AppendOwnNone
import Derived.Lib.Hide
import Derived.Laws.CopyOwn
namespace Go.Proofs.YtodpocciimbjbaaDoor.RowG
open Go.RowKit Kit
set_option linter.unusedVariables false
set_option maxRecDepth 100000

/-- How a record of one kind lies in memory, and its type in the program. -/
structure Enc (α : Type) where
  enc : α → List Value
  sz : Nat
  bytes : Nat
  ty : TypeId
  slt : TypeId
  zero : Value
  len : ∀ a, (enc a).length = sz
  one : ∀ a, ∀ u ∈ enc a, u.oneCell' = true
  pos : 0 < sz
  info : (Tryd.prog.info? ty).map (fun i => (i.zero, i.size, i.bytes)) = some (some zero, sz, bytes)
  zlen : zero.cells.size = sz
  by64 : bytes ≤ 256
  und : Tryd.prog.underlying slt = some (.slice ty)
variable {α : Type}
def flat (E : Enc α) (L : List α) : List Value := (L.map E.enc).flatten
theorem flat_len (E : Enc α) : ∀ L : List α, (flat E L).length = L.length * E.sz
  | [] => by simp [flat]
  | c :: L => by
    have ih := flat_len E L
    unfold flat at ih ⊢
    rw [List.map_cons, List.flatten_cons, List.length_append, ih, List.length_cons, E.len, Nat.succ_mul]
    omega
theorem flat_app (E : Enc α) (L R : List α) : flat E (L ++ R) = flat E L ++ flat E R := by simp [flat]
theorem flat_cons (E : Enc α) (a : α) (L : List α) : flat E (a :: L) = E.enc a ++ flat E L := rfl
theorem flat_one1 (E : Enc α) (a : α) : flat E [a] = E.enc a := by simp [flat]
theorem flat_at (E : Enc α) : ∀ (L : List α) (i : Nat) (h : i < L.length) (d : Nat), d < E.sz → (flat E L)[i * E.sz + d]? = (E.enc L[i])[d]?
  | c :: L, 0, _, d, hd => by
    rw [flat_cons, Nat.zero_mul, Nat.zero_add, List.getElem?_append_left (by rw [E.len]; exact hd)]
    rfl
  | c :: L, i + 1, h, d, hd => by
    rw [flat_cons, List.getElem?_append_right (by rw [E.len, Nat.succ_mul]; omega), show (i + 1) * E.sz + d - (E.enc c).length = i * E.sz + d by rw [E.len, Nat.succ_mul]; omega]
    exact flat_at E L i (by simpa using h) d hd
theorem flat_one (E : Enc α) (L : List α) : ∀ u ∈ flat E L, u.oneCell' = true := by
  intro u hu
  obtain ⟨x, hx, hux⟩ := List.mem_flatten.1 hu
  obtain ⟨c, -, rfl⟩ := List.mem_map.1 hx
  exact E.one c u hux
theorem flat_take (E : Enc α) (L : List α) (k : Nat) : flat E (L.take k) = (flat E L).take (k * E.sz) := by
  rcases Nat.lt_or_ge k L.length with h | h
  · have e : flat E L = flat E (L.take k) ++ flat E (L.drop k) := by rw [← flat_app, List.take_append_drop]
    have hl : (flat E (L.take k)).length = k * E.sz := by rw [flat_len, List.length_take, Nat.min_eq_left (by omega)]
    rw [e]
    exact (List.take_left' hl).symm
  · rw [List.take_of_length_le h, List.take_of_length_le]
    rw [flat_len]
    exact Nat.mul_le_mul_right _ h
theorem mul_lt {i n s d : Nat} (h : i < n) (hd : d < s) : i * s + d < n * s := by
  have : (i + 1) * s ≤ n * s := Nat.mul_le_mul_right _ h
  rw [Nat.succ_mul] at this
  omega
/-- A row of records. -/
def Rs (E : Enc α) (w : World) (q : Option Addr) (L : List α) : Prop :=
  0 < L.length → ∃ b off, q = some ⟨b, off, none⟩ ∧ b < w.heap.size ∧ ∀ j, j < L.length * E.sz → w.cell? ⟨b, off + j, none⟩ = (flat E L)[j]?
variable {E : Enc α} {w w' : World} {q : Option Addr} {L : List α}
theorem Rs.keep (h : Rs E w q L) (hb : Below w.heap.size w w') : Rs E w' q L := by
  intro h0
  obtain ⟨b, off, hp, hlt, hc⟩ := h h0
  exact ⟨b, off, hp, Nat.lt_of_lt_of_le hlt hb.size, fun j hj => by rw [hb.cell (p := ⟨b, off + j, none⟩) hlt]; exact hc j hj⟩
theorem Rs.nil (E : Enc α) (w : World) (q : Option Addr) : Rs E w q [] := fun h => absurd h (by simp)
theorem Rs.take (h : Rs E w q L) (n : Nat) : Rs E w q (L.take n) := by
  intro h0
  rw [List.length_take] at h0
  obtain ⟨b, off, hp, hlt, hc⟩ := h (by omega)
  refine ⟨b, off, hp, hlt, fun j hj => ?_⟩
  rw [List.length_take] at hj
  have h1 : min n L.length * E.sz ≤ L.length * E.sz := Nat.mul_le_mul_right _ (by omega)
  have h2 : min n L.length * E.sz ≤ n * E.sz := Nat.mul_le_mul_right _ (by omega)
  rw [hc j (by omega), flat_take, List.getElem?_take, if_pos (by omega)]
theorem Rs.cells (h : Rs E w q L) (i : Nat) (hi : i < L.length) : ∃ b off, q = some ⟨b, off, none⟩ ∧ b < w.heap.size ∧ ∀ d, d < E.sz → w.cell? ⟨b, off + i * E.sz + d, none⟩ = (E.enc L[i])[d]? := by
  obtain ⟨b, off, hp, hlt, hc⟩ := h (by omega)
  refine ⟨b, off, hp, hlt, fun d hd => ?_⟩
  rw [Nat.add_assoc, hc _ (mul_lt hi hd)]
  exact flat_at E L i hi d hd
/-- A row of records of the call's own. -/
def OwnR (E : Enc α) (base : Nat) (w : World) (v : Value) (L : List α) : Prop := w.ownsRow base E.ty E.sz v L.length (flat E L)
theorem ownR_keep {base : Nat} {v : Value} (h : OwnR E base w v L) (hb : Below w.heap.size w w') : OwnR E base w' v L := by
  refine ⟨h.1, ?_⟩
  rcases h.2 with ⟨e, h0⟩ | ⟨g, cap, cur, e, hg, hh, h1, h2, h3, h4⟩
  · exact Or.inl ⟨e, h0⟩
  · have hlt : g < w.heap.size := by
      rcases Nat.lt_or_ge g w.heap.size with h' | h'
      · exact h'
      · rw [Array.getElem?_eq_none h'] at hh; cases hh
    exact Or.inr ⟨g, cap, cur, e, hg, by rw [hb.block g hlt]; exact hh, h1, h2, h3, h4⟩
theorem OwnR.keep {base : Nat} {v : Value} (h : OwnR E base w v L) (hb : Below w.heap.size w w') : OwnR E base w' v L := ownR_keep h hb
theorem OwnR.low {b b' : Nat} {v : Value} (h : OwnR E b w v L) (hb : b' ≤ b) : OwnR E b' w v L := by
  refine ⟨h.1, ?_⟩
  rcases h.2 with h1 | ⟨g, cap, cur, e, hg, h2⟩
  · exact Or.inl h1
  · exact Or.inr ⟨g, cap, cur, e, Nat.le_trans hb hg, h2⟩
theorem OwnR.drew {base : Nat} {v : Value} (h : OwnR E base w v L) : OwnR E base w.drew v L := h
theorem ownR_nil (E : Enc α) (base : Nat) (w : World) : OwnR E base w (.slice none 0 0) [] := ⟨by simp [flat], Or.inl ⟨rfl, rfl⟩⟩
theorem ownR_new (E : Enc α) (base : Nat) (w : World) (k : Nat) (hk : k = w.heap.size) (hb : base ≤ w.heap.size) : OwnR E base (w.alloc (.cells #[] E.ty)) (.slice (some ⟨k, 0, none⟩) 0 0) [] := by
  subst hk
  exact World.ownsRow_lit w #[] 0 hb (by simp [maxLen]) (by simp)
theorem ownR_lit (E : Enc α) (base : Nat) (w W : World) (L : List α) (cs : Array Value) (k n : Nat) (hcs : cs = (flat E L).toArray) (hk : k = w.heap.size) (hn : n = L.length) (hW : W = w.alloc (.cells cs E.ty)) (hb : base ≤ w.heap.size) (hm : n ≤ 1048576) : OwnR E base W (.slice (some ⟨k, 0, none⟩) n n) L := by
  subst hcs hk hn hW
  have h := World.ownsRow_lit (e := E.ty) (size := E.sz) (base := base) w (flat E L).toArray L.length hb (by unfold maxLen; omega) (by simp [flat_len])
  simpa [OwnR] using h
/-- What was answered: a row in new memory. -/
def AnsR (E : Enc α) (base : Nat) (w : World) (v : Value) (L : List α) : Prop :=
  ∃ q c, v = .slice q L.length c ∧ Rs E w q L ∧ (∀ a, q = some a → base ≤ a.block) ∧ L.length ≤ c ∧ c ≤ 9223372036854775807 ∧ (q = none → c = 0)
theorem OwnR.ans {base : Nat} {v : Value} (h : OwnR E base w v L) : AnsR E base w v L := by
  rcases id h.2 with ⟨rfl, h0⟩ | ⟨g, cap, cur, rfl, hgb, hh, hc, hm, hsz, htake⟩
  · obtain rfl : L = [] := List.eq_nil_of_length_eq_zero h0
    exact ⟨none, 0, rfl, Rs.nil _ _ _, (fun a h => by cases h), by simp, by omega, fun _ => rfl⟩
  · unfold maxLen at hm
    refine ⟨_, cap, rfl, fun h0 => ⟨g, 0, rfl, ?_, fun j hj => ?_⟩, (fun a ha => by injection ha with ha; subst ha; exact hgb), hc, by omega, fun h => by cases h⟩
    · rcases Nat.lt_or_ge g w.heap.size with h' | h'
      · exact h'
      · rw [Array.getElem?_eq_none h'] at hh; cases hh
    · rw [Nat.zero_add]
      exact World.ownsRow.cellAt h j hj
theorem AnsR.keep {base : Nat} {v : Value} (h : AnsR E base w v L) (hb : Below w.heap.size w w') : AnsR E base w' v L := by
  obtain ⟨q, c, hv, hS, h1⟩ := h
  exact ⟨q, c, hv, hS.keep hb, h1⟩
theorem AnsR.low {b b' : Nat} {v : Value} (h : AnsR E b w v L) (hb : b' ≤ b) : AnsR E b' w v L := by
  obtain ⟨q, c, hv, hS, hge, h1⟩ := h
  exact ⟨q, c, hv, hS, fun a ha => Nat.le_trans hb (hge a ha), h1⟩
theorem ansR_nil (E : Enc α) (base : Nat) (w : World) : AnsR E base w (.slice none 0 0) [] := ⟨none, 0, rfl, Rs.nil _ _ _, (fun a h => by cases h), by simp, by omega, fun _ => rfl⟩
/-- What lies in blocks of one's own stays over whatever stays in them. -/
theorem AnsR.high {base : Nat} {v : Value} (h : AnsR E base w v L) (hk : ∀ k, base ≤ k → w'.heap[k]? = w.heap[k]?) (hs : w.heap.size ≤ w'.heap.size) : AnsR E base w' v L := by
  obtain ⟨q, c, hv, hS, hge, h1⟩ := h
  refine ⟨q, c, hv, fun h0 => ?_, hge, h1⟩
  obtain ⟨b, off, e, hlt, hc⟩ := hS h0
  have hb := hge _ e
  refine ⟨b, off, e, by omega, fun j hj => ?_⟩
  rw [← hc j hj]
  simp [World.cell?, hk b hb]
theorem own_base_r {base size n : Nat} {e : TypeId} {v : Value} {xs : List Value} (h : w.ownsRow base e size v n xs) : ∀ k, v.ownBlock = some k → base ≤ k := by
  intro k hk
  rcases h.2 with ⟨rfl, -⟩ | ⟨g, cap, cur, rfl, hg, -⟩
  · cases hk
  · injection hk with hk
    subst hk
    exact hg

/-- A record just laid. -/
theorem rec_new (E : Enc α) (W : World) (k : Nat) (a : α) (cs : Array Value) (hcs : cs = (E.enc a).toArray) (hk : k = W.heap.size) : ∀ j, j < E.sz → (W.alloc (.cells cs E.ty)).cell? ⟨k, j, none⟩ = (E.enc a)[j]? := fun j hj => by
  subst hcs hk
  rw [cell_of_row _ _ _ _ E.ty _ (heap_alloc_last W _)]
  simp
/-- An append of one record. -/
theorem wpList_append_r (E : Enc α) {w0 w : World} {ops : Array Oper} {rest : List Oper} {o : Oper} {a : Act} {Q : Exit → Act → World → Prop} (hgd : o.guard = none) (s x : Operand)
    (ho : o.op = .call { callee := .builtin .append, args := #[s, x], argTypes := #[E.slt, E.slt] })
    (v : Value) (L : List α) (hs : a.eval s = v) (hown : OwnR E w0.heap.size w v L) (hb : Below w0.heap.size w0 w)
    (g : Nat) (u : α) (c : Nat) (hx : a.eval x = .slice (some ⟨g, 0, none⟩) 1 c) (hg : ∀ j, j < E.sz → w.cell? ⟨g, j, none⟩ = (E.enc u)[j]?) (hsz : L.length ≤ 1048576)
    (h : ∀ v' w', OwnR E w0.heap.size w' v' (L ++ [u]) → Below w0.heap.size w0 w' → wpList Tryd.prog ops Q rest (a.put o.dst v') w') : wpList Tryd.prog ops Q (o :: rest) a w := by
  obtain ⟨i0, hi0, hz0, hz1, hzb⟩ := info_parts E.info
  refine wpList_append_own w hgd s x E.slt ho w0.heap.size E.ty i0 E.zero E.sz E.bytes E.und hi0 hz0 hz1 hzb E.zlen E.pos v L.length (flat E L) hs hown ⟨g, 0, none⟩ 1 c (E.enc u) hx (by rw [E.len, Nat.one_mul]) (fun j z hz => ?_) (E.one u) (by unfold maxLen; omega) ?_ hb.size ?_
  · have hj : j < E.sz := by rw [← E.len u]; exact (List.getElem?_eq_some_iff.1 hz).1
    rw [Addr.add_lit]
    first
      | rw [hg j hj]; exact hz
      | rw [Nat.zero_add, hg j hj]; exact hz
  · have := E.by64
    have h1 : (L.length + 1) * E.bytes ≤ 1048577 * 256 := Nat.mul_le_mul (by omega) this
    omega
  · intro v' w' h1 h2 _
    refine h v' w' ?_ (hb.grown h2 hb.size (own_base_r hown))
    unfold OwnR
    rw [List.length_append, flat_app, flat_one1]
    exact h1
/-- .. as one step of a region that draws its order. -/
theorem step_append_r (E : Enc α) {w0 w : World} {ops : Array Oper} {o : Oper} {a : Act} {K : Act → World → Prop} {Q : Exit → Act → World → Prop} {F : Prop} (hgd : o.guard = none) (s x : Operand)
    (ho : o.op = .call { callee := .builtin .append, args := #[s, x], argTypes := #[E.slt, E.slt] })
    (v : Value) (L : List α) (hs : a.eval s = v) (hown : OwnR E w0.heap.size w v L) (hb : Below w0.heap.size w0 w)
    (g : Nat) (u : α) (c : Nat) (hx : a.eval x = .slice (some ⟨g, 0, none⟩) 1 c) (hg : ∀ j, j < E.sz → w.cell? ⟨g, j, none⟩ = (E.enc u)[j]?) (hsz : L.length ≤ 1048576)
    (h : ∀ v' w', OwnR E w0.heap.size w' v' (L ++ [u]) → Below w0.heap.size w0 w' → K (a.put o.dst v') w') : if Region.wanted o (yielded ops a.tmps) = true then Oper.wp Tryd.prog o a w K Q else F := by
  rw [if_pos (by simp [Region.wanted, hgd])]
  obtain ⟨i0, hi0, hz0, hz1, hzb⟩ := info_parts E.info
  refine wp_append_own w s x E.slt ho w0.heap.size E.ty i0 E.zero E.sz E.bytes E.und hi0 hz0 hz1 hzb E.zlen E.pos v L.length (flat E L) hs hown ⟨g, 0, none⟩ 1 c (E.enc u) hx (by rw [E.len, Nat.one_mul]) (fun j z hz => ?_) (E.one u) (by unfold maxLen; omega) ?_ hb.size ?_
  · have hj : j < E.sz := by rw [← E.len u]; exact (List.getElem?_eq_some_iff.1 hz).1
    rw [Addr.add_lit]
    first
      | rw [hg j hj]; exact hz
      | rw [Nat.zero_add, hg j hj]; exact hz
  · have := E.by64
    have h1 : (L.length + 1) * E.bytes ≤ 1048577 * 256 := Nat.mul_le_mul (by omega) this
    omega
  · intro v' w' h1 h2 _
    refine h v' w' ?_ (hb.grown h2 hb.size (own_base_r hown))
    unfold OwnR
    rw [List.length_append, flat_app, flat_one1]
    exact h1
/-- An append of a whole row (nil let in). -/
theorem wpList_append_rs (E : Enc α) {w0 w : World} {ops : Array Oper} {rest : List Oper} {o : Oper} {a : Act} {Q : Exit → Act → World → Prop} (hgd : o.guard = none) (s x : Operand)
    (ho : o.op = .call { callee := .builtin .append, args := #[s, x], argTypes := #[E.slt, E.slt] })
    (v : Value) (L : List α) (hs : a.eval s = v) (hown : OwnR E w0.heap.size w v L) (hb : Below w0.heap.size w0 w)
    (q : Option Addr) (M : List α) (m c : Nat) (hx : a.eval x = .slice q m c) (hm : M.length = m) (hM : Rs E w q M) (hnil : q = none → c = 0) (hsz : L.length + m ≤ 2097152) (Z : List α) (hZ : Z = L ++ M)
    (h : ∀ v' w', OwnR E w0.heap.size w' v' Z → Below w0.heap.size w0 w' → wpList Tryd.prog ops Q rest (a.put o.dst v') w') : wpList Tryd.prog ops Q (o :: rest) a w := by
  subst hZ hm
  obtain ⟨i0, hi0, hz0, hz1, hzb⟩ := info_parts E.info
  cases q with
  | none =>
    obtain rfl : M = [] := by
      cases M with
      | nil => rfl
      | cons y r => obtain ⟨b, off, e, -⟩ := hM (by simp); cases e
    obtain rfl := hnil rfl
    refine wpList_append_own_none hgd s x E.slt ho w0.heap.size E.ty i0 E.sz E.und hi0 v L.length (flat E L) hs hown hx ?_
    refine h v w ?_ hb
    rw [List.append_nil]
    exact hown
  | some ad =>
    refine wpList_append_own w hgd s x E.slt ho w0.heap.size E.ty i0 E.zero E.sz E.bytes E.und hi0 hz0 hz1 hzb E.zlen E.pos v L.length (flat E L) hs hown ad M.length c (flat E M) hx (flat_len E M) (fun j u hu => ?_) (flat_one E M) (by unfold maxLen; omega) ?_ hb.size ?_
    · have hj : j < M.length * E.sz := by rw [← flat_len E M]; exact (List.getElem?_eq_some_iff.1 hu).1
      have h0 : 0 < M.length := by
        rcases Nat.eq_zero_or_pos M.length with h0 | h0
        · rw [h0, Nat.zero_mul] at hj; omega
        · exact h0
      obtain ⟨b, off, e, -, hc⟩ := hM h0
      injection e with e
      subst e
      rw [← hu]
      rw [Addr.add_lit]
      exact hc j hj
    · have := E.by64
      have h1 : (L.length + M.length) * E.bytes ≤ 2097152 * 256 := Nat.mul_le_mul (by omega) this
      omega
    · intro v' w' h1 h2 _
      refine h v' w' ?_ (hb.grown h2 hb.size (own_base_r hown))
      unfold OwnR
      rw [List.length_append, flat_app]
      exact h1
/-- .. as one step of a region that draws its order. -/
theorem step_append_rs (E : Enc α) {w0 w : World} {ops : Array Oper} {o : Oper} {a : Act} {K : Act → World → Prop} {Q : Exit → Act → World → Prop} {F : Prop} (hgd : o.guard = none) (s x : Operand)
    (ho : o.op = .call { callee := .builtin .append, args := #[s, x], argTypes := #[E.slt, E.slt] })
    (v : Value) (L : List α) (hs : a.eval s = v) (hown : OwnR E w0.heap.size w v L) (hb : Below w0.heap.size w0 w)
    (b off : Nat) (M : List α) (m c : Nat) (hx : a.eval x = .slice (some ⟨b, off, none⟩) m c) (hm : M.length = m) (hM : Rs E w (some ⟨b, off, none⟩) M) (hsz : L.length + m ≤ 2097152) (Z : List α) (hZ : Z = L ++ M)
    (h : ∀ v' w', OwnR E w0.heap.size w' v' Z → Below w0.heap.size w0 w' → K (a.put o.dst v') w') : if Region.wanted o (yielded ops a.tmps) = true then Oper.wp Tryd.prog o a w K Q else F := by
  subst hZ hm
  rw [if_pos (by simp [Region.wanted, hgd])]
  obtain ⟨i0, hi0, hz0, hz1, hzb⟩ := info_parts E.info
  refine wp_append_own w s x E.slt ho w0.heap.size E.ty i0 E.zero E.sz E.bytes E.und hi0 hz0 hz1 hzb E.zlen E.pos v L.length (flat E L) hs hown ⟨b, off, none⟩ M.length c (flat E M) hx (flat_len E M) (fun j u hu => ?_) (flat_one E M) (by unfold maxLen; omega) ?_ hb.size ?_
  · have hj : j < M.length * E.sz := by rw [← flat_len E M]; exact (List.getElem?_eq_some_iff.1 hu).1
    have h0 : 0 < M.length := by
      rcases Nat.eq_zero_or_pos M.length with h0 | h0
      · rw [h0, Nat.zero_mul] at hj; omega
      · exact h0
    obtain ⟨b', off', e, -, hc⟩ := hM h0
    injection e with e
    injection e with e1 e2
    subst e1 e2
    rw [← hu]
    rw [Addr.add_lit]
    exact hc j hj
  · have := E.by64
    have h1 : (L.length + M.length) * E.bytes ≤ 2097152 * 256 := Nat.mul_le_mul (by omega) this
    omega
  · intro v' w' h1 h2 _
    refine h v' w' ?_ (hb.grown h2 hb.size (own_base_r hown))
    unfold OwnR
    rw [List.length_append, flat_app]
    exact h1

/-- Parts of a row. -/
def partAt (E : Enc α) (p : Option Addr) (c lo : Nat) : Option Addr := if c = lo then p else p.map (·.add (lo * E.sz))
theorem part_zero (E : Enc α) (p : Option Addr) (c : Nat) : partAt E p c 0 = p := by
  unfold partAt
  split
  · rfl
  · cases p with
    | none => rfl
    | some a => simp [Addr.add]
theorem Rs.drop (h : Rs E w q L) (lo : Nat) (hlo : lo ≤ L.length) (c : Nat) (hc : L.length ≤ c) : Rs E w (partAt E q c lo) (L.drop lo) := by
  intro h0
  rw [List.length_drop] at h0
  obtain ⟨b, off, e, hlt, hcell⟩ := h (by omega)
  subst e
  refine ⟨b, off + lo * E.sz, ?_, hlt, fun j hj => ?_⟩
  · unfold partAt
    rw [if_neg (by omega)]
    simp [Addr.add]
  · rw [List.length_drop] at hj
    have e1 : lo * E.sz + (L.length - lo) * E.sz = L.length * E.sz := by rw [← Nat.add_mul]; congr 1; omega
    rw [Nat.add_assoc, hcell (lo * E.sz + j) (by omega)]
    have hl : (flat E (L.take lo)).length = lo * E.sz := by rw [flat_len, List.length_take, Nat.min_eq_left hlo]
    conv => lhs; rw [← List.take_append_drop lo L, flat_app]
    rw [List.getElem?_append_right (by rw [hl]; omega), hl]
    congr 1
    omega

end Go.Proofs.YtodpocciimbjbaaDoor.RowG
namespace Go.Proofs.YtodpocciimbjbaaDoor.RowG
open Go.RowKit Kit
set_option linter.unusedVariables false
set_option maxRecDepth 100000

variable {α : Type} {E : Enc α}
/-- A row just made, of which the cells are not looked at. -/
def Made (E : Enc α) (w : World) (g n : Nat) : Prop := ∃ cur, w.heap[g]? = some (.cells cur E.ty (0, 0)) ∧ n ≤ maxLen ∧ cur.size = n * E.sz
theorem made_of {w : World} {base g n : Nat} {xs : List Value} (h : w.ownsRow base E.ty E.sz (.slice (some ⟨g, 0, none⟩) n n) n xs) : Made E w g n := by
  rcases h.2 with ⟨e, -⟩ | ⟨g', cap, cur, e, -, hh, -, hm, hs, -⟩
  · cases e
  · injection e with e1 _ e3
    injection e1 with e1
    injection e1 with e1
    subst e1 e3
    exact ⟨cur, hh, hm, hs⟩
theorem wpList_make_r (E : Enc α) {w : World} {ops : Array Oper} {rest : List Oper} {o : Oper} {a : Act} {Q : Exit → Act → World → Prop} (hgd : o.guard = none) (l c : Operand) (hop : o.op = Op.makeSlice E.slt l c) (n : Nat) (hl : a.eval l = .int .i64 n) (hc : a.eval c = .int .i64 n) (hn : n ≤ 1048576)
    (hK : ∀ w', Made E w' w.heap.size n → Below w.heap.size w w' → wpList Tryd.prog ops Q rest (a.put o.dst (.slice (some ⟨w.heap.size, 0, none⟩) n n)) w') : wpList Tryd.prog ops Q (o :: rest) a w := by
  obtain ⟨i0, hi0, hz0, hz1, hzb⟩ := info_parts E.info
  refine wpList_make_full w hgd l c E.slt hop w.heap.size E.ty i0 E.zero E.sz E.und hi0 hz0 hz1 .i64 .i64 _ _ n hl hc rfl rfl ?_ (by unfold maxLen; omega) (Nat.le_refl _) ?_
  · rw [hzb]
    have h1 := E.by64
    have : E.bytes * n ≤ 256 * 1048576 := Nat.mul_le_mul h1 hn
    omega
  · intro w' h1 h2
    exact hK w' (made_of h1) ((Below.refl _ _).grown h2 (Nat.le_refl _) (fun k hk => by cases hk))
theorem run_copy_r (E : Enc α) (w : World) (ty : TypeId) (g n : Nat) (h : Made E w g n) (q : Option Addr) (L : List α) (c : Nat) (hL : L.length = n) (hR : Rs E w q L) :
    ∃ w', (Builtin.copy_ #[E.slt, E.slt] ty #[.slice (some ⟨g, 0, none⟩) n n, .slice q n c]).run Tryd.prog w = .ok (goInt n) w' ∧ OwnR E g w' (.slice (some ⟨g, 0, none⟩) n n) L ∧ ∀ B w0, Below B w0 w → B ≤ g → Below B w0 w' := by
  obtain ⟨i0, hi0, hz0, hz1, hzb⟩ := info_parts E.info
  obtain ⟨cur, hh, hm, hs⟩ := h
  rcases Nat.eq_zero_or_pos n with h0 | h0
  · subst h0
    obtain rfl : L = [] := List.eq_nil_of_length_eq_zero hL
    refine ⟨w, ?_, ⟨by simp [flat], Or.inr ⟨g, 0, cur, rfl, Nat.le_refl _, hh, Nat.le_refl _, hm, hs, by simp [flat]⟩⟩, fun B w0 hb _ => hb⟩
    cases q with
    | none => simp [Builtin.copy_, run_underlying E.und, Builtin.lenOf, Builtin.firstCells, sizeOf, typeInfo, hi0, storeCells]
    | some ad => simp [Builtin.copy_, run_underlying E.und, Builtin.lenOf, Builtin.firstCells, sizeOf, typeInfo, hi0, storeCells, loadCells, loadCellsFrom]
  · obtain ⟨b, off, rfl, hlt, hc⟩ := hR (by omega)
    have hfl : (flat E L).length = n * E.sz := by rw [flat_len, hL]
    have hl := run_loadCells_list (P := Tryd.prog) w ⟨b, off, none⟩ (flat E L) (fun j v hv => by
      rw [Addr.add_lit, ← hv]
      exact hc j (by rw [← flat_len E L]; exact (List.getElem?_eq_some_iff.1 hv).1))
    have hst := run_storeCells_at Tryd.prog g 0 E.ty (flat E L) 0 cur w hh (by rw [hfl, hs]; omega) (flat_one E L)
    rw [hfl] at hl hst
    refine ⟨_, by simp [Builtin.copy_, run_underlying E.und, Builtin.lenOf, Builtin.firstCells, sizeOf, typeInfo, hi0, hz1, hl, hst]; rfl, ?_, fun B w0 hb hBg => below_setRow hb hBg _⟩
    refine ⟨by rw [flat_len], Or.inr ⟨g, n, _, by rw [hL], Nat.le_refl _, setRow_heap w g cur _ E.ty _ hh, Nat.le_of_eq hL, hm, ?_, ?_⟩⟩
    · simp [hfl, hs]
    · rw [hL]
      simp [hfl]
theorem wpList_copy_r (E : Enc α) {w : World} {ops : Array Oper} {rest : List Oper} {o : Oper} {a : Act} {Q : Exit → Act → World → Prop} (hgd : o.guard = none) (d s : Operand)
    (ho : o.op = .call { callee := .builtin .copy, args := #[d, s], argTypes := #[E.slt, E.slt] }) (g n c : Nat) (hd : a.eval d = .slice (some ⟨g, 0, none⟩) n n) (h : Made E w g n) (q : Option Addr) (L : List α) (hs : a.eval s = .slice q n c) (hL : L.length = n) (hR : Rs E w q L)
    (B : Nat) (w0 : World) (hb : Below B w0 w) (hBg : B ≤ g) (hK : ∀ w', OwnR E B w' (.slice (some ⟨g, 0, none⟩) n n) L → Below B w0 w' → wpList Tryd.prog ops Q rest (a.put o.dst (goInt n)) w') : wpList Tryd.prog ops Q (o :: rest) a w := by
  refine wpList_plain hgd fun K hK' => ?_
  obtain ⟨w', hrun, h1, h2⟩ := run_copy_r E w o.type g n h q L c hL hR
  unfold Oper.wp
  simp [execOp, ho, resolve, invoke, builtin, hd, hs, hrun, Result.andThen]
  exact hK' _ _ (hK w' (h1.low hBg) (h2 B w0 hb hBg))

end Go.Proofs.YtodpocciimbjbaaDoor.RowG
