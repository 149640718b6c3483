/-
  Values that were made to fit: how large they are; their types, sizes and kinds: pure.
-/
import Derived.Test.YtljhcakfbdbmpaaValLaw
namespace Go.Proofs.Ytljhcakfbdbmpaa.ValL
open Go.Sort Go.RowKit Kit StrT RowG BOrd ValT RefV ValM
set_option linter.unusedVariables false
set_option maxRecDepth 100000

theorem foldL_len : ∀ (l o : List (List UInt8)), rises o → (l.foldl putL o).length ≤ o.length + l.length
  | [], o, _ => by simp
  | x :: l, o, h => by
    have h1 := foldL_len l (putL o x) (putL_rises x h)
    have h2 := putL_len x h
    simp only [List.foldl_cons, List.length_cons]
    omega
theorem foldP_len : ∀ (l o : List Pr), rises (names o) → (l.foldl putP o).length ≤ o.length + l.length
  | [], o, _ => by simp
  | x :: l, o, h => by
    have h1 := foldP_len l (putP o x) (putP_inv x h)
    have h2 := putP_len x h
    simp only [List.foldl_cons, List.length_cons]
    omega
theorem foldM_len : ∀ (l o : List Mk), marks o → (l.foldl putM o).length ≤ o.length + l.length
  | [], o, _ => by simp
  | x :: l, o, h => by
    have h1 := foldM_len l (putM o x) (putM_marks x h).1
    have h2 := putM_len x h
    simp only [List.foldl_cons, List.length_cons]
    omega
theorem take8_len {α : Type} (l : List α) : (l.take 8).length ≤ 8 := by rw [List.length_take]; omega
theorem fitL_len (l : List (List UInt8)) : (fitL l).length ≤ 8 := by
  have h := foldL_len (l.take 8) [] List.Pairwise.nil
  have := take8_len l
  unfold fitL
  simp only [List.length_nil] at h
  omega
theorem fitH_len (l : List Pr) : (fitH l).length ≤ 8 := by
  have h := foldP_len (l.take 8) [] List.Pairwise.nil
  have := take8_len l
  unfold fitH
  simp only [List.length_nil] at h
  omega
theorem fitZ_len (l : List Mk) : (fitZ l).length ≤ 8 := by
  have h := foldM_len (l.take 8) [] List.Pairwise.nil
  have := take8_len l
  unfold fitZ
  simp only [List.length_nil] at h
  omega
theorem fit_len8 (d : V) : (fitV d).l.length ≤ 8 ∧ (fitV d).h.length ≤ 8 ∧ (fitV d).z.length ≤ 8 := by
  unfold fitV
  have h1 := take8_len d.l
  have h2 := fitL_len d.l
  have h3 := fitH_len d.h
  have h4 := fitZ_len d.z
  (repeat' split) <;> simp [v0, h2, h3, h4] <;> omega
theorem fit_len (d : V) : (fitV d).l.length ≤ 1048576 ∧ (fitV d).h.length ≤ 1048576 ∧ (fitV d).z.length ≤ 1048576 := by
  have := fit_len8 d
  omega
theorem right_kind {d : V} (h : right d) : d.kind ≤ 5 := by
  rcases h with h | h | h | h | h | h <;> omega
theorem len_pos {α : Type} {l : List α} (h : l ≠ []) : l.length ≠ 0 := fun e => h (List.eq_nil_of_length_eq_zero e)
theorem right_size {d : V} (h : right d) : sizeN d = 0 ↔ d.kind = 0 := by
  unfold sizeN
  rcases h with ⟨k, h⟩ | ⟨k, h⟩ | ⟨k, -, h, -⟩ | ⟨k, -, -, h, -⟩ | ⟨k, -, h, -⟩ | ⟨k, -, -, -, h, -⟩ <;> simp [k]
  all_goals exact h
theorem right_type {d : V} (h : right d) : typeL d = nNone ↔ d.kind = 0 := by
  have := right_kind h
  unfold typeL
  have hk : d.kind = 0 ∨ d.kind = 1 ∨ d.kind = 2 ∨ d.kind = 3 ∨ d.kind = 4 ∨ d.kind = 5 := by omega
  rcases hk with k | k | k | k | k | k <;> simp [k] <;> decide
theorem type_kind {d e : V} (h : d.kind ≤ 5) (g : e.kind ≤ 5) : typeL d = typeL e ↔ d.kind = e.kind := by
  unfold typeL
  have hk : d.kind = 0 ∨ d.kind = 1 ∨ d.kind = 2 ∨ d.kind = 3 ∨ d.kind = 4 ∨ d.kind = 5 := by omega
  have gk : e.kind = 0 ∨ e.kind = 1 ∨ e.kind = 2 ∨ e.kind = 3 ∨ e.kind = 4 ∨ e.kind = 5 := by omega
  rcases hk with k | k | k | k | k | k <;> rcases gk with l | l | l | l | l | l <;> simp [k, l] <;> decide
theorem same_symm (x y : V) : sameB x y = sameB y x := by
  unfold sameB
  rw [Bool.eq_iff_iff, decide_eq_true_iff, decide_eq_true_iff]
  exact ⟨fun h => h.symm, fun h => h.symm⟩
theorem same_kind {x y : V} (h : x.kind ≠ y.kind) : sameB x y = false := decide_eq_false (fun e => h (by rw [e]))
theorem bytes_eq (a b : List UInt8) : ((⟨a.toArray⟩ : ByteArray).toList == (⟨b.toArray⟩ : ByteArray).toList) = decide (a = b) := by
  rw [bytes_of, bytes_of, Bool.eq_iff_iff, beq_iff_eq, decide_eq_true_iff]
/-- A value opened, its kind known to be small. -/
theorem vin_kind {w : World} {k : Int} {S : ByteArray} {ql : Option Addr} {nl cl : Nat} {qh : Option Addr} {nh ch : Nat} {qz : Option Addr} {nz cz : Nat} {d : V} (h : VIn w k S ql nl cl qh nh ch qz nz cz d) (x : Nat) (hx : x ≤ 255) :
    VIn w (x : Int) S ql nl cl qh nh ch qz nz cz { d with kind := x } := { h with ek := rfl, kb := hx }

/-- What ValueRows puts into a hash. -/
def moreH (h : List Pr) : List Pr := match h with
  | [] => [⟨[110], []⟩]
  | a :: r => (a :: r) ++ [a]
theorem right_true {d : V} (h : right d) : rightB d = true := decide_eq_true h
theorem right_odd {d : V} (h : right d) : rightB { d with s := d.s ++ [120] } = decide (d.kind = 1) := by
  unfold rightB
  rw [Bool.eq_iff_iff, decide_eq_true_iff, decide_eq_true_iff]
  unfold right
  constructor
  · intro g
    rcases g with ⟨k, g, -⟩ | ⟨k, -⟩ | ⟨k, g, -⟩ | ⟨k, g, -⟩ | ⟨k, g, -⟩ | ⟨k, g, -⟩
    · exact absurd g (by simp)
    · exact k
    all_goals exact absurd g (by simp)
  · intro k
    rcases h with ⟨k2, -⟩ | ⟨k2, g⟩ | ⟨k2, -⟩ | ⟨k2, -⟩ | ⟨k2, -⟩ | ⟨k2, -⟩
    · omega
    · exact Or.inr (Or.inl ⟨k2, g⟩)
    all_goals omega
theorem right_more {d : V} (h : right d) : rightB { d with h := moreH d.h } = false := by
  refine decide_eq_false fun g => ?_
  have hne : moreH d.h ≠ [] := by unfold moreH; split <;> simp
  rcases g with ⟨-, -, -, g, -⟩ | ⟨-, -, g, -⟩ | ⟨-, -, -, g, -⟩ | ⟨k, -, -, -, -, g⟩ | ⟨-, -, -, g, -⟩ | ⟨-, -, -, g, -⟩
  · exact hne g
  · exact hne g
  · exact hne g
  · rcases h with ⟨k2, -⟩ | ⟨k2, -⟩ | ⟨k2, -⟩ | ⟨k2, -, -, hh, -⟩ | ⟨k2, -⟩ | ⟨k2, -⟩
    · have : d.kind = 3 := k
      omega
    · have : d.kind = 3 := k
      omega
    · have : d.kind = 3 := k
      omega
    · have g2 : rises (names (moreH d.h)) := g
      cases e : d.h with
      | nil => exact hh e
      | cons a r =>
        rw [e] at g2
        have g3 : rises (a.name :: (names r ++ [a.name])) := by simpa [moreH, names] using g2
        have g4 := (List.pairwise_cons.1 g3).1 a.name (by simp)
        rw [less_irrefl] at g4
        cases g4
    · have : d.kind = 3 := k
      omega
    · have : d.kind = 3 := k
      omega
  · exact hne g
  · exact hne g
theorem rises_reverse {l : List (List UInt8)} (h : rises l) : rises l.reverse ↔ l.length < 2 := by
  constructor
  · intro g
    refine Classical.byContradiction fun hl => ?_
    match l, h, g, hl with
    | a :: b :: r, h, g, hl =>
      have h1 := (List.pairwise_cons.1 h).1 b (by simp)
      have g1 : rises (r.reverse ++ [b] ++ [a]) := by simpa using g
      have g2 := (List.pairwise_append.1 g1).2.2 b (by simp) a (by simp)
      rw [less_asymm h1] at g2
      cases g2
    | [], _, _, hl => exact hl (by simp)
    | [a], _, _, hl => exact hl (by simp)
  · intro hl
    match l, hl with
    | [], _ => exact List.Pairwise.nil
    | [a], _ => exact List.pairwise_singleton _ _
theorem right_back {d : V} (h : right d) : rightB { d with l := d.l.reverse } = (decide (d.kind ≠ 4) || decide (d.l.length < 2)) := by
  unfold rightB
  rw [Bool.eq_iff_iff, decide_eq_true_iff, Bool.or_eq_true, decide_eq_true_iff, decide_eq_true_iff]
  unfold right
  have hn : d.l.reverse = [] ↔ d.l = [] := by simp
  rcases h with ⟨k, h⟩ | ⟨k, h⟩ | ⟨k, h⟩ | ⟨k, h⟩ | ⟨k, h1, h2, h3, h4, h5⟩ | ⟨k, h⟩
  · simp [k, h]
  · simp [k, h]
  · simp [k, h]
  · simp [k, h]
  · have := rises_reverse h5
    simp [k, h1, h2, h3, h4, this]
  · simp [k, h]
theorem right_size2 {d : V} (h : right d) : decide (0 < sizeN d) = decide (d.kind ≠ 0) := by
  rw [Bool.eq_iff_iff, decide_eq_true_iff, decide_eq_true_iff]
  have := right_size h
  omega
theorem right_six (k : Nat) (hk : 6 ≤ k) (S : List UInt8) (l : List (List UInt8)) (h : List Pr) (z : List Mk) : rightB ⟨k, S, l, h, z⟩ = false := by
  refine decide_eq_false fun g => ?_
  rcases g with ⟨e, -⟩ | ⟨e, -⟩ | ⟨e, -⟩ | ⟨e, -⟩ | ⟨e, -⟩ | ⟨e, -⟩
  all_goals
    have e2 : k = _ := e
    omega

theorem more_cons {l : List Pr} (h : 0 < l.length) : moreH l = l ++ [l[0]] := by
  cases l with
  | nil => exact absurd h (by simp)
  | cons a r => rfl
theorem more_len (l : List Pr) : (moreH l).length ≤ l.length + 1 := by
  cases l with
  | nil => simp [moreH]
  | cons a r => simp [moreH]
/-- The world's lower part alone. -/
theorem cut_world (W : World) (b : Nat) (h : b ≤ W.heap.size) : ∃ w0 : World, w0.heap.size = b ∧ Below b w0 W :=
  ⟨{ W with heap := W.heap.extract 0 b }, by simp; omega, ⟨rfl, rfl, rfl, by simp; omega, fun k hk => by
    show W.heap[k]? = (W.heap.extract 0 b)[k]?
    rw [Array.getElem?_extract, if_pos (by omega), Nat.zero_add]⟩⟩
theorem fb_cut {w W : World} {x z n : Array Value} (h : FB w W x z n) : ∃ w0 : World, w0.heap.size = w.heap.size + 1 + 1 + 1 ∧ FB w w0 x z n ∧ Below w0.heap.size w0 W := by
  obtain ⟨w0, hs, hb⟩ := cut_world W (w.heap.size + 1 + 1 + 1) h.sz
  refine ⟨w0, hs, ⟨?_, ?_, ?_, ?_, by omega⟩, by rw [hs]; exact hb⟩
  · rw [← hb.block _ (by omega)]; exact h.bx
  · rw [← hb.block _ (by omega)]; exact h.re
  · rw [← hb.block _ (by omega)]; exact h.ou
  · have h1 := h.bl
    exact ⟨hb.os.symm.trans h1.os, hb.tape.symm.trans h1.tape, hb.output.symm.trans h1.output, by omega, fun k hk => by rw [← hb.block k (by omega)]; exact h1.block k hk⟩
/-- One block of a value's behind a world. -/
structure BB (w W : World) (n : Array Value) : Prop where
  ou : W.heap[w.heap.size]? = some (.cells n 26 (0, 0))
  bl : Below w.heap.size w W
  sz : w.heap.size < W.heap.size
theorem BB.new (w : World) (n : Array Value) : BB w (w.alloc (.cells n 26)) n := ⟨heap_alloc_last w _, bel_new w _, by simp⟩
theorem BB.keep {w W W' : World} {n : Array Value} (h : BB w W n) (hb : Below W.heap.size W W') : BB w W' n :=
  ⟨by rw [hb.block _ h.sz]; exact h.ou, h.bl.trans (hb.mono (by have := h.sz; omega)), Nat.lt_of_lt_of_le h.sz hb.size⟩
theorem BB.put {w W : World} {n : Array Value} (h : BB w W n) (j : Nat) (v : Value) : BB w (W.setCell ⟨w.heap.size, j, none⟩ v) (n.setIfInBounds j v) :=
  ⟨heap_setCell_same _ _ _ _ _ _ h.ou, h.bl.setCell (Nat.le_refl _) v, by simpa using h.sz⟩
theorem bb_cut {w W : World} {n : Array Value} (h : BB w W n) : ∃ w0 : World, w0.heap.size = w.heap.size + 1 ∧ BB w w0 n ∧ Below w0.heap.size w0 W := by
  obtain ⟨w0, hs, hb⟩ := cut_world W (w.heap.size + 1) h.sz
  refine ⟨w0, hs, ⟨?_, ?_, by omega⟩, by rw [hs]; exact hb⟩
  · rw [← hb.block _ (by omega)]; exact h.ou
  · have h1 := h.bl
    exact ⟨hb.os.symm.trans h1.os, hb.tape.symm.trans h1.tape, hb.output.symm.trans h1.output, by omega, fun k hk => by rw [← hb.block k (by omega)]; exact h1.block k hk⟩

end Go.Proofs.Ytljhcakfbdbmpaa.ValL
