/-
  Arrays and rows of bytes as lists: what mac's walks need.
-/
import Derived.Test.YtjcohlpjlifolaaDoorOwn
import Derived.Test.YtjcohlpjlifolaaDoorMacMath
import Derived.Laws.CopyOwn
import Derived.Laws.MakeOwn
import Derived.Laws.AppendOwnNone
namespace Go.Proofs.YtjcohlpjlifolaaDoor.MacT
open Go.RowKit Kit ShaMath ShaT MacM
set_option linter.unusedVariables false

theorem row_bv (n : Nat) (f : Nat → Nat) (hf : ∀ j, f j < 256) : row .u8 n f = (bv (bytesOf n f)).toArray := by
  unfold row bv bytesOf
  congr 1
  rw [List.map_map]
  apply List.map_congr_left
  intro j _
  have := hf j
  simp only [Function.comp_def, UInt8.toNat_ofNat']
  rw [Nat.mod_eq_of_lt (by omega)]
/-- An array of bytes is a row of bytes. -/
theorem arr_bs {w : World} {b n : Nat} {t : TypeId} {f : Nat → Nat} (h : Arr w b .u8 n t f) (hf : ∀ j, f j < 256) : Bs w (some ⟨b, 0, none⟩) (bytesOf n f) := by
  intro h0
  refine ⟨b, 0, rfl, h.lt, fun j hj => ?_⟩
  rw [bytesOf_length] at hj
  rw [Nat.zero_add, h.at_ j hj, bytesOf_at, UInt8.toNat_ofNat', Nat.mod_eq_of_lt (hf j)]
/-- A block that holds bytes. -/
def Byt (w : World) (g : Nat) (t : TypeId) (l : List UInt8) : Prop := w.heap[g]? = some (.cells (bv l).toArray t (0, 0))
theorem Byt.lt {w : World} {g : Nat} {t : TypeId} {l : List UInt8} (h : Byt w g t l) : g < w.heap.size := by
  rcases Nat.lt_or_ge g w.heap.size with h' | h'
  · exact h'
  · unfold Byt at h; rw [Array.getElem?_eq_none h'] at h; cases h
theorem Byt.bs {w : World} {g : Nat} {t : TypeId} {l : List UInt8} (h : Byt w g t l) : Bs w (some ⟨g, 0, none⟩) l := by
  intro h0
  refine ⟨g, 0, rfl, h.lt, fun j hj => ?_⟩
  rw [Nat.zero_add, cell_of_row w g j _ t _ h]
  simp [bv, hj]
theorem Byt.keep {w w' : World} {B g : Nat} {t : TypeId} {l : List UInt8} (h : Byt w g t l) (hb : Below B w w') (hB : g < B) : Byt w' g t l := by
  unfold Byt
  rw [hb.block g hB]
  exact h
theorem Byt.al {w : World} {g : Nat} {t : TypeId} {l : List UInt8} (h : Byt w g t l) (o : Obj) : Byt (w.alloc o) g t l := by
  unfold Byt
  rw [Below.heap_alloc w o g h.lt]
  exact h
theorem Byt.set {w : World} {g : Nat} {t : TypeId} {l : List UInt8} (h : Byt w g t l) (j : Nat) (c : UInt8) : Byt (w.setCell ⟨g, j, none⟩ (.int .u8 (c.toNat : Int))) g t (l.set j c) := by
  unfold Byt
  rw [heap_setCell_same w g j _ t _ h]
  congr 2
  simp [bv, List.map_set]
theorem arr_byt {w : World} {b n : Nat} {t : TypeId} {f : Nat → Nat} (h : Arr w b .u8 n t f) (hf : ∀ j, f j < 256) : Byt w b t (bytesOf n f) := by
  unfold Byt
  rw [← row_bv n f hf]
  exact h
theorem byt_arr {w : World} {b n : Nat} {t : TypeId} {f : Nat → Nat} (h : Byt w b t (bytesOf n f)) (hf : ∀ j, f j < 256) : Arr w b .u8 n t f := by
  unfold Arr
  rw [row_bv n f hf]
  exact h
/-- What is copied out of a row that came in. -/
theorem copy_src {w : World} {p : Option Addr} {l : List UInt8} (h : Bs w p l) (h0 : 0 < (bv l).length) : ∃ ad, p = some ad ∧ ad.block < w.heap.size ∧ ∀ j v, (bv l)[j]? = some v → w.cell? (ad.add j) = some v := by
  rw [bv_length] at h0
  obtain ⟨b, off, rfl, hlt, hc⟩ := h h0
  refine ⟨_, rfl, hlt, fun j v hv => ?_⟩
  have hj : j < l.length := by
    rcases Nat.lt_or_ge j l.length with h | h
    · exact h
    · rw [List.getElem?_eq_none (by rw [bv_length]; exact h)] at hv; cases hv
  have hv3 := Option.some.inj ((bv_at l j hj).symm.trans hv)
  subst hv3
  rw [Addr.add_lit]
  exact hc j hj
theorem splice_bv (d s : List UInt8) (k : Nat) : splice (bv d) k (bv s) = bv (d.take k ++ s ++ d.drop (k + s.length)) := by
  unfold splice bv
  simp [List.map_take, List.map_drop]
/-- Bytes 0. -/
def zeros (n : Nat) : List UInt8 := List.replicate n 0
theorem zeros_length (n : Nat) : (zeros n).length = n := by simp [zeros]
theorem made_bv (n : Nat) : madeCells #[.int .u8 0] n = (bv (zeros n)).toArray := by
  apply Array.ext
  · simp [madeCells, bv, zeros]
  · intro i h1 h2
    simp [madeCells, bv, zeros, Nat.mod_one]
theorem row_zeros (n : Nat) : row .u8 n (fun _ => 0) = (bv (zeros n)).toArray := by
  rw [row_bv n _ (fun _ => by decide)]
  congr 2
  unfold bytesOf zeros
  apply List.ext_getElem
  · simp
  · intro i h1 h2
    simp
theorem filled (l : List UInt8) (h : l.length ≤ 64) : l ++ (zeros 64).drop l.length = bytesOf 64 (byte l) := by
  apply List.ext_getElem
  · simp [bytesOf_length, zeros_length]; omega
  · intro i h1 h2
    rw [bytesOf_at, List.getElem_append]
    unfold byte
    rw [List.getD_eq_getElem?_getD]
    split
    · rename_i hi
      rw [List.getElem?_eq_getElem hi]
      simp
    · rename_i hi
      rw [List.getElem?_eq_none (by omega)]
      simp only [zeros, List.getElem_drop, List.getElem_replicate]
      rfl

/-- A copy of bytes into a block of bytes. -/
theorem wpList_copy_bytes {P : Program} {w : World} {ops : Array Oper} {rest : List Oper} {o : Oper} {a : Act} {Q : Exit → Act → World → Prop} (hgd : o.guard = none) (d s : Operand) (dT : TypeId)
    (ho : o.op = .call { callee := .builtin .copy, args := #[d, s], argTypes := #[dT, dT] }) (elem : TypeId) (hu : P.underlying dT = some (.slice elem)) (hsz : (P.info? elem).map (·.size) = some 1)
    (g off dLen dCap : Nat) (sp : Option Addr) (sCap : Nat) (x l : List UInt8) (t : TypeId) (hd : a.eval d = .slice (some ⟨g, off, none⟩) dLen dCap) (hs : a.eval s = .slice sp l.length sCap)
    (hg : Byt w g t x) (hl : l.length ≤ dLen) (hsrc : Bs w sp l) (hfit : off + l.length ≤ x.length)
    (B : Nat) (w0 : World) (hb : Below B w0 w) (hBg : B ≤ g) (z : List UInt8) (hz : z = x.take off ++ l ++ x.drop (off + l.length))
    (h : ∀ w', Byt w' g t z → Below B w0 w' → wpList P ops Q rest (a.put o.dst (goInt l.length)) w') :
    wpList P ops Q (o :: rest) a w := by
  refine wpList_copy_splice hgd d s dT dT ho elem hu hsz (some ⟨g, off, none⟩) sp dLen dCap l.length sCap hd hs g off (bv x) t hg (bv l) (by rw [bv_length]; exact (Nat.min_eq_left hl).symm) (fun h0 => ⟨rfl, ?_⟩) (by rw [bv_length, bv_length]; exact hfit) (bv_one _) B w0 hb hBg (fun w' h1 h2 => ?_)
  · obtain ⟨ad, h1, _, h3⟩ := copy_src hsrc h0
    exact ⟨ad, h1, h3⟩
  · rw [bv_length]
    refine h w' ?_ h2
    have := h1.out
    rw [splice_bv, ← hz] at this
    exact this

end Go.Proofs.YtjcohlpjlifolaaDoor.MacT
