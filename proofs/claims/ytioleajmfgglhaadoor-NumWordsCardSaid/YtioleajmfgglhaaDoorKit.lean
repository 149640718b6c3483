/-
  Small words of my own on worlds, of no function: a row of bytes that the call owns, what is below stays, a package-level variable that stays. Nothing here is of this program but the import.
-/
import Derived.WalkKit
import Derived.WalkLawsBesides
import Derived.WalkSmall
import Derived.Lib.Hide
import Derived.Lib.ConvBytes
import Derived.Lib.SlBytesRow
import Derived.Laws.IdiomStrings
namespace Go.Proofs.YtioleajmfgglhaaDoor.Kit
open Go.RowKit

theorem ret_bool {a b : Bool} (h : a = b) : Ending.returned (.bool a) = .returned (.bool b) := by rw [h]
theorem ret_int {k : IntKind} {a a' : Int} (h : a = a') : Ending.returned (.int k a) = .returned (.int k a') := by rw [h]
theorem ret_str {a a' : ByteArray} (h : a = a') : Ending.returned (.string a) = .returned (.string a') := by rw [h]
theorem ret_ib {a a' : Int} {b b' : Bool} (h : a = a') (h' : b = b') : Ending.returned (.tuple #[.int .i64 a, .bool b]) = .returned (.tuple #[.int .i64 a', .bool b']) := by rw [h, h']
theorem ret_ii {a a' b b' : Int} (h : a = a') (h' : b = b') : Ending.returned (.tuple #[.int .i64 a, .int .i64 b]) = .returned (.tuple #[.int .i64 a', .int .i64 b']) := by rw [h, h']
theorem ret_iib {a a' c c' : Int} {b b' : Bool} (h : a = a') (hc : c = c') (h' : b = b') : Ending.returned (.tuple #[.int .i64 a, .int .i64 c, .bool b]) = .returned (.tuple #[.int .i64 a', .int .i64 c', .bool b']) := by rw [h, hc, h']

/-- A package-level variable stays over whatever keeps what was there. -/
theorem var_keep {P : Program} {W W' : World} {n : String} {cs : Array Value} (h : Below W.heap.size W W') (hv : W.var? P n = some cs) : W'.var? P n = some cs := by
  rcases hg : P.globalNamed n with _ | g
  · unfold World.var? at hv
    simp [hg] at hv
  · have hlt : g < W.heap.size := by
      rcases Nat.lt_or_ge g W.heap.size with h' | h'
      · exact h'
      · unfold World.var? at hv
        simp [hg, Array.getElem?_eq_none h'] at hv
    exact var?_below h hg hlt hv

/-- The bytes of a row: block b from cell 0 on. -/
def Row8 (w : World) (b : Nat) (l : List UInt8) : Prop := ∀ j (h : j < l.length), w.cell? ⟨b, j, none⟩ = some (.int .u8 (l[j].toNat : Int)) ∧ w.frozen? ⟨b, j, none⟩ = false
theorem Row8.at_ {w : World} {b : Nat} {l : List UInt8} (h : Row8 w b l) (j : Nat) (hj : j < l.length) : w.cell? ⟨b, j, none⟩ = some (.int .u8 (l[j].toNat : Int)) := (h j hj).1
theorem Row8.frz {w : World} {b : Nat} {l : List UInt8} (h : Row8 w b l) (j : Nat) (hj : j < l.length) : w.frozen? ⟨b, j, none⟩ = false := (h j hj).2
theorem Row8.set {w : World} {b : Nat} {l : List UInt8} (h : Row8 w b l) (j : Nat) (hj : j < l.length) (c : UInt8) : Row8 (w.setCell ⟨b, j, none⟩ (.int .u8 (c.toNat : Int))) b (l.set j c) := by
  intro i hi0
  have hi : i < l.length := by simpa using hi0
  refine ⟨?_, ?_⟩
  · by_cases e : i = j
    · subst e
      rw [World.cell?_setCell_same w _ _ (h.at_ i hi)]
      simp
    · rw [World.cell?_setCell_other w _ _ _ (by intro e'; injection e' with _ e'; exact e e'.symm), h.at_ i hi]
      rw [List.getElem_set_ne (by omega)]
  · rw [World.frozen?_setCell]
    exact h.frz i hi

theorem frozen_marked {W : World} {b : Nat} {C : Array Value} {t : TypeId} {n j : Nat} (h : W.heap[b]? = some (.cells C t (n, n + 1))) (hj : j < n) : W.frozen? ⟨b, j, none⟩ = false := by
  simp [World.frozen?, h]
  omega

theorem bytesWorld_row (w : World) (e : TypeId) (s : ByteArray) : Row8 (Lib.bytesWorld w e s) w.heap.size s.data.toList := by
  intro j hj
  have hj' : j < s.size := by simpa using hj
  refine ⟨?_, frozen_marked (Lib.bytesWorld_at_new w e s) ?_⟩
  · rw [Lib.bytesWorld_cell w e s j hj', List.getD_eq_getElem?_getD, List.getElem?_eq_getElem hj]
    rfl
  · unfold Lib.bytesCells
    rw [Array.size_append, Array.size_map]
    have : s.data.size = s.size := rfl
    omega
theorem bytesWorld_below (w : World) (e : TypeId) (s : ByteArray) : Below w.heap.size w (Lib.bytesWorld w e s) :=
  ⟨rfl, rfl, rfl, by rw [Lib.bytesWorld_size]; omega, fun k hk => Lib.bytesWorld_at_old w e s k hk⟩

/-- 'string(b)' of a row of bytes. -/
theorem run_row_string {P : Program} (w : World) (src e dst : TypeId) (hs : P.underlying src = some (.slice e)) (he : P.underlying e = some (.int .u8)) (hd : P.underlying dst = some .string) (b : Nat) (l : List UInt8) (h : Row8 w b l) (n cap : Nat) (hn : n = l.length) :
    (convert src dst (.slice (some ⟨b, 0, none⟩) n cap)).run P w = .ok (.string ⟨l.toArray⟩) w := by
  subst hn
  have hz : (⟨l.toArray⟩ : ByteArray).size = l.length := by simp [ByteArray.size]
  have := Lib.run_convert_whole (P := P) w src e dst hs he hd b 0 ⟨l.toArray⟩ (fun i hi => by
    rw [hz] at hi
    have := h.at_ i hi
    rw [Nat.zero_add, this]
    rfl) cap
  rw [hz] at this
  exact this

end Go.Proofs.YtioleajmfgglhaaDoor.Kit
