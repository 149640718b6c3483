/-
  Two requests that were put, one behind the other, are read one by one, and nothing is left; a part of one is not whole.
-/
import Derived.Test.YtadffjmpkeaikaaDoorFrameRead0
import Derived.Test.YtadffjmpkeaikaaDoorFrameTold
import Derived.Test.YtadffjmpkeaikaaDoorFrameFit
namespace Go.Proofs.YtadffjmpkeaikaaDoor.FrameL
open Go.RowKit Kit BytesIn ReplyMath ReplyT NumMath NumL FrameMath FrameT FrameM
set_option linter.unusedVariables false
set_option maxRecDepth 100000

theorem reads_two (x y : List (List UInt8)) (hx : 1 ≤ x.length ∧ x.length ≤ 32) (hy : 1 ≤ y.length ∧ y.length ≤ 32) (hsx : ∀ s ∈ x, s.length ≤ 60) (hsy : ∀ s ∈ y, s.length ≤ 60) : Reads (texts x ++ texts y) [x, y] [] false := by
  have h1 := next_told x (texts y) hx.1 hx.2 (fun s hs => Nat.le_trans (hsx s hs) (by decide))
  have h2 := next_told y [] hy.1 hy.2 (fun s hs => Nat.le_trans (hsy s hs) (by decide))
  rw [List.append_nil] at h2
  have h3 : nextL [] = .part := rfl
  obtain _ | ⟨a, xs⟩ := x
  · simp at hx
  obtain _ | ⟨b, ys⟩ := y
  · simp at hy
  refine Reads.some h1 ?_
  rw [List.drop_left]
  refine Reads.some h2 ?_
  rw [List.drop_length]
  exact Reads.part h3
theorem readsB_two (x y : List (List UInt8)) (hx : 1 ≤ x.length ∧ x.length ≤ 32) (hy : 1 ≤ y.length ∧ y.length ≤ 32) (hsx : ∀ s ∈ x, s.length ≤ 60) (hsy : ∀ s ∈ y, s.length ≤ 60) : ReadsB false (texts x ++ texts y) [x, y] [] false := by
  unfold ReadsB
  rw [if_neg (by decide)]
  exact reads_two x y hx hy hsx hsy
theorem part_of (x : List (List UInt8)) (k : Nat) (hx : 1 ≤ x.length ∧ x.length ≤ 32) (hsx : ∀ s ∈ x, s.length ≤ 60) (hk : k < (texts x).length) : nextL ((texts x).take k) = .part :=
  next_part x ((texts x).take k) ((texts x).drop k) hx.1 hx.2 (fun s hs => Nat.le_trans (hsx s hs) (by decide)) (List.take_append_drop k (texts x)).symm (by
    intro h
    have := congrArg List.length h
    rw [List.length_drop, List.length_nil] at this
    omega)
theorem bulks_len : ∀ (L : List (List UInt8)), (∀ s ∈ L, s.length ≤ 60) → (L.map bulk).flatten.length ≤ 68 * L.length
  | [], _ => by simp
  | s :: L, h => by
    have h1 := bulks_len L (fun x hx => h x (List.mem_cons_of_mem _ hx))
    have h2 := h s List.mem_cons_self
    have h3 := itoa_small s.length (by omega)
    rw [List.map_cons, List.flatten_cons, List.length_append, bulk_told, List.length_append, told_len, List.length_cons]
    simp only [List.length_append, List.length_cons, List.length_nil]
    omega
theorem texts_len (L : List (List UInt8)) (h1 : L.length ≤ 32) (h : ∀ s ∈ L, s.length ≤ 60) : 0 < (texts L).length ∧ (texts L).length ≤ 2200 := by
  have h2 := bulks_len L h
  have h3 := itoa_small L.length (by omega)
  rw [texts_told, List.length_append, told_len]
  omega

/-- A row of bytes, of texts that came before a reader's blocks. -/
def BsOff (F : Nat → Prop) (w : World) (p : Option Addr) (l : List UInt8) : Prop := Bs w p l ∧ ∀ a, p = some a → 0 < l.length → ¬ F a.block
theorem BsOff.turn {F F' : Nat → Prop} {w w' : World} {p : Option Addr} {l : List UInt8} (h : BsOff F w p l) (ht : Turn F w w' F') : BsOff F' w' p l := by
  refine ⟨fun h0 => ?_, fun a ha h0 => ?_⟩
  · obtain ⟨b, off, hp, hlt, hc⟩ := h.1 h0
    have hf := h.2 _ hp h0
    exact ⟨b, off, hp, Nat.lt_of_lt_of_le hlt ht.size, fun j hj => by rw [ht.cell (a := ⟨b, off + j, none⟩) hlt hf]; exact hc j hj⟩
  · obtain ⟨b, off, hp, hlt, hc⟩ := h.1 h0
    have hf := h.2 a ha h0
    rw [ha] at hp
    injection hp with hp
    subst hp
    exact ht.off hlt hf
theorem bs_new {F : Nat → Prop} {w w' : World} {p : Option Addr} {l : List UInt8} (h : Bs w p l) (hb : Below w.heap.size w w') (hF : ∀ k, F k → w.heap.size ≤ k) : BsOff F w' p l := by
  refine ⟨h.keep hb, fun a ha h0 hf => ?_⟩
  obtain ⟨b, off, hp, hlt, hc⟩ := h h0
  rw [ha] at hp
  injection hp with hp
  subst hp
  have := hF _ hf
  exact absurd hlt (by dsimp only at this; omega)
theorem ss_new {F : Nat → Prop} {w w' : World} {q : Option Addr} {L : List (List UInt8)} (h : Ss w q L) (hb : Below w.heap.size w w') (hF : ∀ k, F k → w.heap.size ≤ k) : SsOff F w' q L := by
  refine ⟨h.keep hb, fun a ha h0 hf => ?_⟩
  obtain ⟨b, off, hp, hlt, hc⟩ := h h0
  rw [ha] at hp
  injection hp with hp
  subst hp
  have := hF _ hf
  exact absurd hlt (by dsimp only at this; omega)
theorem ansS_form {base : Nat} {w : World} {v : Value} {L : List (List UInt8)} (h : AnsS base w v L) (n : Nat) (hn : L.length = n) : ∃ q c, v = .slice q n c ∧ Ss w q L ∧ n ≤ c ∧ c ≤ 9223372036854775807 ∧ (q = none → c = 0) := by
  subst hn
  obtain ⟨q, c, hv, hS, -, h1⟩ := h
  exact ⟨q, c, hv, hS, h1⟩
theorem ans_form {base : Nat} {w : World} {v : Value} {l : List UInt8} (h : Ans base w v l) (n : Nat) (hn : l.length = n) : ∃ p c, v = .slice p n c ∧ Bs w p l ∧ n ≤ c ∧ c ≤ 9223372036854775807 ∧ (p = none → c = 0) := by
  subst hn
  obtain ⟨p, c, hv, hB, -, h1⟩ := h
  exact ⟨p, c, hv, hB, h1⟩
theorem alloc_lt (w : World) (vs : Array Value) (t : TypeId) : w.heap.size < (w.alloc (.cells vs t)).heap.size := by
  have h : (w.alloc (.cells vs t)).heap.size = w.heap.size + 1 := Array.size_push _
  omega
/-- A row of two rows of texts, just made. -/
theorem ts_two (w : World) (qx qy : Option Addr) (x y : List (List UInt8)) (nx ny cx cy : Nat) (t : TypeId) (hx : Ss w qx x) (hy : Ss w qy y) (hnx : x.length = nx) (hny : y.length = ny) (hcx : nx ≤ cx ∧ cx ≤ 9223372036854775807 ∧ (qx = none → cx = 0)) (hcy : ny ≤ cy ∧ cy ≤ 9223372036854775807 ∧ (qy = none → cy = 0)) :
    Ts (fun _ => False) (w.alloc (.cells #[.slice qx nx cx, .slice qy ny cy] t)) (some ⟨w.heap.size, 0, none⟩) [x, y] := by
  have hal := below1 w (.cells #[.slice qx nx cx, .slice qy ny cy] t)
  subst hnx hny
  have hh := heap_alloc_last w (.cells #[.slice qx x.length cx, .slice qy y.length cy] t)
  intro _
  refine ⟨w.heap.size, 0, rfl, alloc_lt w _ _, fun h => h, fun j hj => ?_⟩
  match j, hj with
  | 0, _ => exact ⟨.slice qx x.length cx, by rw [cell_of_row _ _ _ _ _ _ hh]; rfl, qx, cx, rfl, ⟨hx.keep hal, fun _ _ _ h => h⟩, hcx⟩
  | 1, _ => exact ⟨.slice qy y.length cy, by rw [cell_of_row _ _ _ _ _ _ hh]; rfl, qy, cy, rfl, ⟨hy.keep hal, fun _ _ _ h => h⟩, hcy⟩

end Go.Proofs.YtadffjmpkeaikaaDoor.FrameL
