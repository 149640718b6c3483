/-
  What num.Text comes to, over the library's contracts (laid at this program in YtdhhiodnnnfioaaDoorShelf); num.Parse's two results.
-/
import Derived.Test.YtdhhiodnnnfioaaDoorChecked
import Derived.Test.YtdhhiodnnnfioaaDoorShelf
import Derived.Test.YtdhhiodnnnfioaaDoorKit
import Derived.Test.YtdhhiodnnnfioaaDoorNumMath
namespace Go.Proofs.YtdhhiodnnnfioaaDoor.NumL
open Go.RowKit Kit NumMath
open Go.Sort (grow)
set_option maxRecDepth 100000

theorem below_grow (w : World) (q : Nat) (os : Array Obj) : Below w.heap.size w (grow (w.drewN q) os) :=
  ⟨rfl, rfl, rfl, by show w.heap.size ≤ (w.heap ++ os).size; simp, fun k hk => by show (w.heap ++ os)[k]? = _; exact Array.getElem?_append_left hk⟩

/-- WHAT THE WORLD HOLDS OF THE LIBRARY: the table of powers of ten, and the two errors. -/
structure Gd (w : World) : Prop where
  tab : Lib.TabIs Tryd.prog w "internal/strconv.uint64pow10" .u64 Lib.pow10Tab
  syn : ∃ tp p, w.var? Tryd.prog "strconv.ErrSyntax" = some #[.iface tp p]
  rng : ∃ tp p, w.var? Tryd.prog "strconv.ErrRange" = some #[.iface tp p]
theorem Gd.keep {w w' : World} (h : Gd w) (hb : Below w.heap.size w w') : Gd w' := by
  obtain ⟨tp, p, h1⟩ := h.syn
  obtain ⟨tq, q, h2⟩ := h.rng
  exact ⟨var_keep hb h.tab, ⟨tp, p, var_keep hb h1⟩, ⟨tq, q, var_keep hb h2⟩⟩

/-- Of these, what telling a number asks: the table alone. -/
structure Gt (w : World) : Prop where
  tab : Lib.TabIs Tryd.prog w "internal/strconv.uint64pow10" .u64 Lib.pow10Tab
theorem Gt.keep {w w' : World} (h : Gt w) (hb : Below w.heap.size w w') : Gt w' := ⟨var_keep hb h.tab⟩
theorem Gd.gt {w : World} (h : Gd w) : Gt w := ⟨h.tab⟩
instance {w : World} : Coe (Gd w) (Gt w) := ⟨Gd.gt⟩
theorem text_t (n : Int) (h0 : -9223372036854775808 ≤ n) (h1 : n ≤ 9223372036854775807) (w : World) (hg : Gt w) :
    Calls Tryd.prog 66 #[.int .i64 n] w fun e w' => e = .returned (.string ⟨(Lib.itoa n).toArray⟩) ∧ Below w.heap.size w w' := by
  have c := fun W (h : Gt W) => (Tryd.strconv_Itoa n h0 h1 W h.tab).mono (R' := fun e w' => e = .returned (.string ⟨(Lib.itoa n).toArray⟩) ∧ Below W.heap.size W w') fun e w' ⟨he, k, os, hw⟩ => ⟨he, by rw [hw]; exact below_grow _ _ _⟩
  have C := Lib.hid c
  have G := Lib.hid hg
  clear c hg
  go_enter Tryd.func66, Tryd.ntmps66
  go_wp2_with fail
  refine (C.out _ G.out).mono ?_
  rintro e w' ⟨rfl, hb⟩
  go_wp2_with fail
  go_ret
  exact ⟨rfl, hb⟩

theorem itoa_any (n : Int) (h0 : -9223372036854775808 ≤ n) (h1 : n ≤ 9223372036854775807) (w : World) (hg : Gd w) :
    Calls Tryd.prog 82 #[.int .i64 n] w fun e w' => e = .returned (.string ⟨(Lib.itoa n).toArray⟩) ∧ Below w.heap.size w w' :=
  (Tryd.strconv_Itoa n h0 h1 w hg.tab).mono fun e w' ⟨he, k, os, hw⟩ => ⟨he, by rw [hw]; exact below_grow _ _ _⟩

theorem text_any (n : Int) (h0 : -9223372036854775808 ≤ n) (h1 : n ≤ 9223372036854775807) (w : World) (hg : Gd w) :
    Calls Tryd.prog 66 #[.int .i64 n] w fun e w' => e = .returned (.string ⟨(Lib.itoa n).toArray⟩) ∧ Below w.heap.size w w' := by
  have c := fun W (h : Gd W) => itoa_any n h0 h1 W h
  have C := Lib.hid c
  have G := Lib.hid hg
  clear c hg
  go_enter Tryd.func66, Tryd.ntmps66
  go_wp2_with fail
  refine (C.out _ G.out).mono ?_
  rintro e w' ⟨rfl, hb⟩
  go_wp2
  go_ret
  exact ⟨rfl, hb⟩

/-- num.Parse's two results. -/
def pV (l : List UInt8) : Int := (parse l).getD 0
def pB (l : List UInt8) : Bool := (parse l).isSome

theorem parse_ok {l : List UInt8} {v : Int} (h : Lib.atoiAll l = .ok v) (he : Lib.itoa v = l) : pV l = v ∧ pB l = true := by
  have : parse l = some v := by unfold parse; rw [h]; simp [he]
  simp [pV, pB, this]
theorem parse_un {l : List UInt8} {v : Int} (h : Lib.atoiAll l = .ok v) (he : Lib.itoa v ≠ l) : pV l = 0 ∧ pB l = false := by
  have : parse l = none := by unfold parse; rw [h]; simp [he]
  simp [pV, pB, this]
theorem parse_bad {l : List UInt8} (h : ∀ v, Lib.atoiAll l ≠ .ok v) : pV l = 0 ∧ pB l = false := by
  have : parse l = none := by
    unfold parse
    split
    · rename_i v hv
      exact absurd hv (h v)
    · rfl
  simp [pV, pB, this]

end Go.Proofs.YtdhhiodnnnfioaaDoor.NumL
