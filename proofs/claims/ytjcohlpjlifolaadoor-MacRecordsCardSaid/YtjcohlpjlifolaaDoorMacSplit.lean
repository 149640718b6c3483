/-
  A record cut at its colons: the library's strings.SplitN, over the contract that is laid at this program; and sha.Unhex and num.Parse in the form that the parser asks.
-/
import Derived.Test.YtjcohlpjlifolaaDoorMacRec
import Derived.Test.YtjcohlpjlifolaaDoorMacKit
import Derived.Test.YtjcohlpjlifolaaDoorNumParse
import Derived.Test.YtjcohlpjlifolaaDoorUnhexWalk
import Derived.Lib.IndexBytes
namespace Go.Proofs.YtjcohlpjlifolaaDoor.MacT
open Go.RowKit Kit ShaMath ShaT MacM HexMath HexW NumL NumMath
set_option linter.unusedVariables false
set_option maxRecDepth 100000

/-- The library's one variable that SplitN reads holds a number. -/
def Mx (w : World) : Prop := ∃ m, w.cell? ⟨3, 0, none⟩ = some (.int .i64 m)
theorem Mx.of_shape {w : World} (h : w.ShapedOpen Tryd.prog) : Mx w := Tryd.laysM147.s1_3 w h
theorem Mx.keep {w w' : World} (h : Mx w) (hb : Below w.heap.size w w') : Mx w' := by
  obtain ⟨m, hm⟩ := h
  exact ⟨m, by rw [hb.cell (p := ⟨_, 0, none⟩) (Go.block_lt_of_cell hm)]; exact hm⟩

theorem splitK_miss {l : List UInt8} (k : Nat) (h : cutL l = none) : Lib.splitK [58] 0 k l = [l] := by
  cases k with
  | zero => rfl
  | succ k =>
    have hi : Lib.index l [58] = -1 := by
      rw [Lib.index_one, index_cut, h]
    unfold Lib.splitK
    rw [hi]
    rfl
theorem splitK_hit {l a b : List UInt8} (k : Nat) (h : cutL l = some (a, b)) : Lib.splitK [58] 0 (k + 1) l = a :: Lib.splitK [58] 0 k b := by
  have hi : Lib.index l [58] = (a.length : Int) := by
    rw [Lib.index_one, index_cut, h]
  obtain ⟨hl, _⟩ := cutL_some h
  rw [Lib.splitK, hi]
  have h1 : ¬ (((a.length : Int) == -1) = true) := by
    rw [beq_iff_eq]; omega
  rw [if_neg h1, Int.toNat_natCast, Nat.add_zero]
  have e1 : l.take a.length = a := by rw [hl]; simp
  have e2 : l.drop (a.length + [(58 : UInt8)].length) = b := by rw [hl]; simp
  rw [e1, e2]
theorem splitK_three {l a b c : List UInt8} (h : three l = some (a, b, c)) : Lib.splitK [58] 0 2 l = [a, b, c] := by
  unfold three at h
  split at h
  · cases h
  · rename_i x r hx
    split at h
    · cases h
    · rename_i y z hy
      simp only [Option.some.injEq, Prod.mk.injEq] at h
      obtain ⟨rfl, rfl, rfl⟩ := h
      rw [splitK_hit 1 hx, splitK_hit 0 hy]
      rfl
theorem splitK_other {l : List UInt8} (h : three l = none) : (Lib.splitK [58] 0 2 l).length ≤ 2 := by
  unfold three at h
  split at h
  · rename_i hx
    rw [splitK_miss 2 hx]
    simp
  · rename_i x r hx
    split at h
    · rename_i hy
      rw [splitK_hit 1 hx, splitK_miss 1 hy]
      simp
    · cases h
theorem three_size {l a b c : List UInt8} (h : three l = some (a, b, c)) : l.length = a.length + b.length + c.length + 2 := by
  unfold three at h
  split at h
  · cases h
  · rename_i x r hx
    split at h
    · cases h
    · rename_i y z hy
      simp only [Option.some.injEq, Prod.mk.injEq] at h
      obtain ⟨rfl, rfl, rfl⟩ := h
      obtain ⟨h1, -⟩ := cutL_some hx
      obtain ⟨h2, -⟩ := cutL_some hy
      rw [h1, h2]
      simp
      omega
theorem map_data {L : List ByteArray} {a b c : List UInt8} (h : L.map (·.data.toList) = [a, b, c]) : L = [⟨a.toArray⟩, ⟨b.toArray⟩, ⟨c.toArray⟩] := by
  match L, h with
  | [x, y, z], h =>
    simp only [List.map_cons, List.map_nil, List.cons.injEq, and_true] at h
    obtain ⟨rfl, rfl, rfl⟩ := h
    rfl

/-- Three texts in a row. -/
def Words (a b c : List UInt8) (w : World) (e : Ending) (w' : World) : Prop :=
  ∃ g, e = .returned (.slice (some ⟨g, 0, none⟩) 3 3) ∧ w'.cell? ⟨g, 0, none⟩ = some (.string ⟨a.toArray⟩) ∧ w'.cell? ⟨g, 1, none⟩ = some (.string ⟨b.toArray⟩) ∧ w'.cell? ⟨g, 2, none⟩ = some (.string ⟨c.toArray⟩) ∧ g < w'.heap.size ∧ Below w.heap.size w w'
/-- Not three. -/
def Fewer (w : World) (e : Ending) (w' : World) : Prop := ∃ p n c, e = .returned (.slice p n c) ∧ n ≤ 2 ∧ Below w.heap.size w w'
theorem split_three (s : ByteArray) (a b c : List UInt8) (h : three s.data.toList = some (a, b, c)) (w : World) (hz : s.size ≤ 1048576) (hm : Mx w) :
    Calls Tryd.prog 47 #[.string s, .string ⟨#[58]⟩, .int .i64 3] w (Words a b c w) := by
  obtain ⟨m, hm⟩ := hm
  refine (Tryd.strings_SplitN s ⟨#[58]⟩ 3 m w (by omega) hm (by decide) (by decide) (by decide)).mono ?_
  have hs : s.data.toList.length = s.size := by simp
  have hl := three_size h
  have hmin : min 3 (s.size + 1) = 3 := by omega
  have hd := Lib.splitB_data ⟨#[58]⟩ 0 2 s
  rw [show (⟨#[58]⟩ : ByteArray).data.toList = [58] from rfl, splitK_three h] at hd
  rintro e w' ⟨he, hw⟩
  rw [hmin] at he hw
  rw [map_data hd] at he hw
  refine ⟨w.heap.size, he, ?_⟩
  subst hw
  have hc := heap_alloc_last w (.cells (Lib.cellsOf [⟨a.toArray⟩, ⟨b.toArray⟩, ⟨c.toArray⟩] 3) 9)
  refine ⟨?_, ?_, ?_, by simp, below1 _ _⟩
  · rw [cell_of_row _ _ 0 _ _ _ hc]; rfl
  · rw [cell_of_row _ _ 1 _ _ _ hc]; rfl
  · rw [cell_of_row _ _ 2 _ _ _ hc]; rfl
theorem split_other (s : ByteArray) (h : three s.data.toList = none) (w : World) (hz : s.size ≤ 1048576) (hm : Mx w) :
    Calls Tryd.prog 47 #[.string s, .string ⟨#[58]⟩, .int .i64 3] w (Fewer w) := by
  obtain ⟨m, hm⟩ := hm
  refine (Tryd.strings_SplitN s ⟨#[58]⟩ 3 m w (by omega) hm (by decide) (by decide) (by decide)).mono ?_
  rintro e w' ⟨he, hw⟩
  refine ⟨_, _, _, he, ?_, by rw [hw]; exact below1 _ _⟩
  by_cases h2 : 2 ≤ s.size
  · have hd := congrArg List.length (Lib.splitB_data ⟨#[58]⟩ 0 2 s)
    rw [List.length_map] at hd
    rw [show min 3 (s.size + 1) - 1 = 2 by omega, hd]
    exact splitK_other h
  · have := Lib.splitB_length_le ⟨#[58]⟩ 0 (min 3 (s.size + 1) - 1) s
    omega

theorem own_full {w : World} {base n : Nat} {v : Value} {l : List UInt8} (h : w.ownsRow base 5 1 v n (bv l)) : ∃ p c, v = .slice p l.length c ∧ Bs w p l ∧ l.length ≤ c ∧ c ≤ 9223372036854775807 ∧ (p = none → c = 0) := by
  obtain ⟨p, c, hv, hb⟩ := own_bs h
  have hl : l.length = n := by have := h.1; rw [bv_length] at this; omega
  refine ⟨p, c, hv, hb, ?_⟩
  rcases h.2 with ⟨e, h0⟩ | ⟨g, cap, cur, e, _, _, h1, h2, _⟩
  · rw [hv] at e
    injection e with e1 e2 e3
    subst e1 e3
    exact ⟨by omega, by omega, fun _ => rfl⟩
  · rw [hv] at e
    injection e with e1 e2 e3
    subst e1 e3
    unfold maxLen at h2
    exact ⟨by omega, by omega, fun h => by cases h⟩

/-- What sha.Unhex answers, in one form. -/
def UnB (l : List UInt8) (w : World) (e : Ending) (w' : World) : Prop :=
  ∃ p n c, e = .returned (.tuple #[.slice p n c, .bool (unhexL l).isSome]) ∧ (∀ out, unhexL l = some out → out.length = n ∧ Bs w' p out ∧ n ≤ c ∧ c ≤ 9223372036854775807 ∧ (p = none → c = 0)) ∧ Below w.heap.size w w'
theorem unhex_b (l : List UInt8) (w : World) (hz : l.length ≤ 1048576) : Calls Tryd.prog 49 #[.string ⟨l.toArray⟩] w (UnB l w) := by
  refine (unhex_any ⟨l.toArray⟩ w (by rw [size_bytes]; omega)).mono ?_
  rintro e w' (⟨hn, he, hb⟩ | ⟨out, v, hu, he, ho, hb⟩)
  · have hn' : unhexL l = none := hn
    exact ⟨none, 0, 0, by rw [hn']; exact he, fun out h => (by rw [hn'] at h; cases h), hb⟩
  · have hu' : unhexL l = some out := hu
    obtain ⟨p, c, rfl, hbs, h1, h2, h3⟩ := own_full ho
    refine ⟨p, out.length, c, by rw [hu']; exact he, fun out' h => ?_, hb⟩
    rw [hu'] at h
    injection h with h
    subst h
    exact ⟨rfl, hbs, h1, h2, h3⟩
theorem parse_b (l : List UInt8) (w : World) (hz : l.length ≤ 1048576) (hg : NumL.Gd w) : Calls Tryd.prog 48 #[.string ⟨l.toArray⟩] w fun e w' => e = .returned (.tuple #[.int .i64 (pV l), .bool (pB l)]) ∧ Below w.heap.size w w' :=
  parse_any ⟨l.toArray⟩ (by rw [size_bytes]; omega) w hg

end Go.Proofs.YtjcohlpjlifolaaDoor.MacT
