/-
  Rows of things that are done (the laws' type Op of layer 10).
-/
import Derived.Test.YtbcjgkedlapmhaaStoLaw
import Derived.Test.YtbcjgkedlapmhaaFitLen
namespace Go.Proofs.Ytbcjgkedlapmhaa.StoL
open Go.RowKit Kit StrT RowG BOrd ValT StoT StoM RefV
set_option linter.unusedVariables false
set_option maxRecDepth 100000

structure OpR where
  kd : Int
  key : List UInt8
  v : PV
  n : Int
  on : Bool
def OpR.cells (r : OpR) : Array Value := #[.int .u8 r.kd, .string ⟨r.key.toArray⟩, .int .u8 r.v.k, .string r.v.S, .slice r.v.ql r.v.nl r.v.cl, .slice r.v.qh r.v.nh r.v.ch, .slice r.v.qz r.v.nz r.v.cz, .int .i64 r.n, .bool r.on]
def opE : Enc OpR where
  enc r := r.cells.toList
  sz := 9
  bytes := 136
  ty := 37
  slt := 22
  zero := .agg #[.int .u8 0, .string ByteArray.empty, .int .u8 0, .string ByteArray.empty, .slice none 0 0, .slice none 0 0, .slice none 0 0, .int .i64 0, .bool false]
  len _ := rfl
  one a u hu := by
    simp [OpR.cells] at hu
    rcases hu with rfl | rfl | rfl | rfl | rfl | rfl | rfl | rfl | rfl <;> rfl
  pos := by decide
  info := by kernel_rfl
  zlen := rfl
  by64 := by decide
  und := by kernel_rfl
/-- What is known of a thing that was handed in to be done. -/
structure OpR.Ok (w : World) (r : OpR) : Prop where
  kd : 0 ≤ r.kd ∧ r.kd ≤ 255
  n : -9223372036854775808 ≤ r.n ∧ r.n ≤ 9223372036854775807
  v : VArg w r.v.k r.v.S r.v.ql r.v.nl r.v.cl r.v.qh r.v.nh r.v.ch r.v.qz r.v.nz r.v.cz r.v.d
  s : r.v.S.size ≤ 140737488351232
  ks : r.key.length ≤ 140737488351232
theorem op_cells {w : World} {q : Option Addr} {L : List OpR} (h : Rs opE w q L) (i : Nat) (hi : i < L.length) : ∃ b off, q = some ⟨b, off, none⟩ ∧ b < w.heap.size ∧
    w.cell? ⟨b, off + i * 9, none⟩ = some (.int .u8 L[i].kd) ∧ w.cell? ⟨b, off + i * 9 + 1, none⟩ = some (.string ⟨L[i].key.toArray⟩) ∧ w.cell? ⟨b, off + i * 9 + 2, none⟩ = some (.int .u8 L[i].v.k) ∧ w.cell? ⟨b, off + i * 9 + 3, none⟩ = some (.string L[i].v.S) ∧
    w.cell? ⟨b, off + i * 9 + 4, none⟩ = some (.slice L[i].v.ql L[i].v.nl L[i].v.cl) ∧ w.cell? ⟨b, off + i * 9 + 5, none⟩ = some (.slice L[i].v.qh L[i].v.nh L[i].v.ch) ∧ w.cell? ⟨b, off + i * 9 + 6, none⟩ = some (.slice L[i].v.qz L[i].v.nz L[i].v.cz) ∧
    w.cell? ⟨b, off + i * 9 + 7, none⟩ = some (.int .i64 L[i].n) ∧ w.cell? ⟨b, off + i * 9 + 8, none⟩ = some (.bool L[i].on) := by
  obtain ⟨b, off, hp, hlt, hc⟩ := h.cells i hi
  exact ⟨b, off, hp, hlt, hc 0 (by decide), hc 1 (by decide), hc 2 (by decide), hc 3 (by decide), hc 4 (by decide), hc 5 (by decide), hc 6 (by decide), hc 7 (by decide), hc 8 (by decide)⟩
/-- One of them in a block of its own. -/
structure OC (w : World) (g : Nat) (r : OpR) : Prop where
  hp : w.heap[g]? = some (.cells #[.int .u8 r.kd, .string ⟨r.key.toArray⟩, .int .u8 r.v.k, .string r.v.S, .slice r.v.ql r.v.nl r.v.cl, .slice r.v.qh r.v.nh r.v.ch, .slice r.v.qz r.v.nz r.v.cz, .int .i64 r.n, .bool r.on] 37 (0, 0))
theorem OC.new (w : World) (r : OpR) : OC (w.alloc (.cells #[.int .u8 r.kd, .string ⟨r.key.toArray⟩, .int .u8 r.v.k, .string r.v.S, .slice r.v.ql r.v.nl r.v.cl, .slice r.v.qh r.v.nh r.v.ch, .slice r.v.qz r.v.nz r.v.cz, .int .i64 r.n, .bool r.on] 37)) w.heap.size r := ⟨heap_alloc_last w _⟩
theorem OC.lt {w : World} {g : Nat} {r : OpR} (h : OC w g r) : g < w.heap.size := (Array.getElem?_eq_some_iff.1 h.hp).1
theorem OC.keep {w w' : World} {g : Nat} {r : OpR} {X : Nat → Prop} (h : OC w g r) (hk : Keep X w w') (hx : X g) : OC w' g r := ⟨by rw [hk.2 g hx]; exact h.hp⟩
theorem OC.below {w w' : World} {g : Nat} {r : OpR} (h : OC w g r) (hb : Below w.heap.size w w') : OC w' g r := ⟨by rw [hb.block g h.lt]; exact h.hp⟩
theorem OC.at_ {w : World} {g : Nat} {r : OpR} (h : OC w g r) : w.cell? ⟨g, 0, none⟩ = some (.int .u8 r.kd) ∧ w.cell? ⟨g, 1, none⟩ = some (.string ⟨r.key.toArray⟩) ∧ w.cell? ⟨g, 2, none⟩ = some (.int .u8 r.v.k) ∧ w.cell? ⟨g, 3, none⟩ = some (.string r.v.S) ∧ w.cell? ⟨g, 4, none⟩ = some (.slice r.v.ql r.v.nl r.v.cl) ∧ w.cell? ⟨g, 5, none⟩ = some (.slice r.v.qh r.v.nh r.v.ch) ∧ w.cell? ⟨g, 6, none⟩ = some (.slice r.v.qz r.v.nz r.v.cz) ∧ w.cell? ⟨g, 7, none⟩ = some (.int .i64 r.n) ∧ w.cell? ⟨g, 8, none⟩ = some (.bool r.on) := by
  refine ⟨?_, ?_, ?_, ?_, ?_, ?_, ?_, ?_, ?_⟩ <;> (rw [cell_of_row _ _ _ _ 37 _ h.hp]; rfl)
theorem kind_of {p : PV} {w : World} {d : V} (hp : p.In w) (hd : p.d = d) : p.k = (d.kind : Int) := by
  have h := hp.ek
  rw [hd] at h
  exact h
theorem OC.last {w : World} {g : Nat} {r : OpR} (h : OC w g r) : w.cell? ⟨g, 7, none⟩ = some (.int .i64 r.n) ∧ w.cell? ⟨g, 8, none⟩ = some (.bool r.on) := ⟨h.at_.2.2.2.2.2.2.2.1, h.at_.2.2.2.2.2.2.2.2⟩
set_option maxHeartbeats 1000000 in
theorem key_any (S : ByteArray) (w : World) (hs : S.size ≤ 140737488351232) : Calls Try.prog 11 #[.string S] w fun e w' => (∃ K, e = .returned (.string K) ∧ K.data.toList = S.data.toList.take 10) ∧ w' = w := by
  by_cases hl : 10 < S.size
  · have d1 : decide ((10 : Int) < (S.size : Int)) = true := decide_eq_true (by omega)
    have q1 : ∀ W : World, (Instr.slice 9 (.string S) none (some (.int .i64 10)) none).run Try.prog W = .ok (.string (S.extract 0 10)) W := fun W => by
      have h := run_slice_string_h (P := Try.prog) W 9 S Try.underlying9 .i64 10 (by omega) (by omega)
      simpa using h
    go_enter Try.func11, Try.ntmps11
    go_wp2_with fail
    go_ret
    exact ⟨⟨_, rfl, by simp⟩, rfl⟩
  · have d1 : decide ((10 : Int) < (S.size : Int)) = false := decide_eq_false (by omega)
    go_enter Try.func11, Try.ntmps11
    go_wp2_with fail
    go_ret
    exact ⟨⟨_, rfl, by rw [List.take_of_length_le (by rw [Array.length_toList]; show S.size ≤ 10; omega)]⟩, rfl⟩
theorem key_small {K : ByteArray} {L : List UInt8} (h : K.data.toList = L.take 10) : MapF.KeyIs K K.data.toList := by
  refine MapF.keyIs rfl ?_
  have h1 := congrArg List.length h
  rw [List.length_take, Array.length_toList] at h1
  have h2 : K.size = K.data.size := rfl
  unfold maxLen
  omega

end Go.Proofs.Ytbcjgkedlapmhaa.StoL
