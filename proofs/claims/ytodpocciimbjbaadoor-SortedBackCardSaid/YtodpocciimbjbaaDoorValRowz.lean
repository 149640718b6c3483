/-
  Values in memory; drawn regions that only read them; what a copy of one is.
-/
import Derived.Test.YtodpocciimbjbaaDoorGRows
import Derived.Test.YtodpocciimbjbaaDoorValMaths
import Derived.Test.YtodpocciimbjbaaDoorStrRowz
import Derived.Test.YtodpocciimbjbaaDoorOwnIn
import Derived.Lib.QuietBelow
import Derived.BigQuiet
import Derived.Deep.QuietTactic
import Derived.StillTailTactics
namespace Go.Proofs.YtodpocciimbjbaaDoor.ValT
open Go.RowKit Kit StrT RowG BOrd
open Go.Op (bytesLess)
set_option linter.unusedVariables false
set_option maxRecDepth 100000

def strE : Enc (List UInt8) where
  enc l := [.string ⟨l.toArray⟩]
  sz := 1
  bytes := 16
  ty := 9
  slt := 22
  zero := .string ByteArray.empty
  len _ := rfl
  one a u hu := by
    rw [List.mem_singleton.1 hu]
    rfl
  pos := by decide
  info := by kernel_rfl
  zlen := rfl
  by64 := by decide
  und := by kernel_rfl
def prE : Enc Pr where
  enc p := [.string ⟨p.name.toArray⟩, .string ⟨p.val.toArray⟩]
  sz := 2
  bytes := 32
  ty := 53
  slt := 23
  zero := .agg #[.string ByteArray.empty, .string ByteArray.empty]
  len _ := rfl
  one a u hu := by
    simp at hu
    rcases hu with rfl | rfl <;> rfl
  pos := by decide
  info := by kernel_rfl
  zlen := rfl
  by64 := by decide
  und := by kernel_rfl
def mkE : Enc Mk where
  enc p := [.string ⟨p.name.toArray⟩, .int .i64 p.n]
  sz := 2
  bytes := 24
  ty := 39
  slt := 24
  zero := .agg #[.string ByteArray.empty, .int .i64 0]
  len _ := rfl
  one a u hu := by
    simp at hu
    rcases hu with rfl | rfl <;> rfl
  pos := by decide
  info := by kernel_rfl
  zlen := rfl
  by64 := by decide
  und := by kernel_rfl
theorem flat_sv : ∀ L : List (List UInt8), flat strE L = sv L
  | [] => rfl
  | a :: L => by
    rw [flat_cons, flat_sv L]
    rfl
theorem rs_ss {w : World} {q : Option Addr} {L : List (List UInt8)} : Rs strE w q L ↔ Ss w q L := by
  constructor
  · intro h h0
    obtain ⟨b, off, hp, hlt, hc⟩ := h h0
    refine ⟨b, off, hp, hlt, fun j hj => ?_⟩
    rw [hc j (by show j < L.length * 1; omega), flat_sv, sv_at L j hj]
  · intro h h0
    obtain ⟨b, off, hp, hlt, hc⟩ := h h0
    refine ⟨b, off, hp, hlt, fun j hj => ?_⟩
    have hj' : j < L.length := by
      have : j < L.length * 1 := hj
      omega
    rw [hc j hj', flat_sv, sv_at L j hj']
theorem pair_cells {w : World} {q : Option Addr} {L : List Pr} (h : Rs prE w q L) (i : Nat) (hi : i < L.length) : ∃ b off, q = some ⟨b, off, none⟩ ∧ b < w.heap.size ∧
    w.cell? ⟨b, off + i * 2, none⟩ = some (.string ⟨L[i].name.toArray⟩) ∧ w.cell? ⟨b, off + i * 2 + 1, none⟩ = some (.string ⟨L[i].val.toArray⟩) := by
  obtain ⟨b, off, hp, hlt, hc⟩ := h.cells i hi
  exact ⟨b, off, hp, hlt, hc 0 (by decide), hc 1 (by decide)⟩
theorem mark_cells {w : World} {q : Option Addr} {L : List Mk} (h : Rs mkE w q L) (i : Nat) (hi : i < L.length) : ∃ b off, q = some ⟨b, off, none⟩ ∧ b < w.heap.size ∧
    w.cell? ⟨b, off + i * 2, none⟩ = some (.string ⟨L[i].name.toArray⟩) ∧ w.cell? ⟨b, off + i * 2 + 1, none⟩ = some (.int .i64 L[i].n) := by
  obtain ⟨b, off, hp, hlt, hc⟩ := h.cells i hi
  exact ⟨b, off, hp, hlt, hc 0 (by decide), hc 1 (by decide)⟩

/-- A value that is handed in: its parts. -/
structure VIn (w : World) (k : Int) (S : ByteArray) (ql : Option Addr) (nl cl : Nat) (qh : Option Addr) (nh ch : Nat) (qz : Option Addr) (nz cz : Nat) (d : V) : Prop where
  ek : k = (d.kind : Int)
  kb : d.kind ≤ 255
  es : S.data.toList = d.s
  rl : Rs strE w ql d.l
  rh : Rs prE w qh d.h
  rz : Rs mkE w qz d.z
  ll : d.l.length = nl
  lh : d.h.length = nh
  lz : d.z.length = nz
  fl : nl ≤ 1048576
  fh : nh ≤ 1048576
  fz : nz ≤ 1048576
  bl : nl ≤ cl
  bh : nh ≤ ch
  bz : nz ≤ cz
  ml : cl ≤ 9223372036854775807
  mh : ch ≤ 9223372036854775807
  mz : cz ≤ 9223372036854775807
  el : ql = none → cl = 0
  eh : qh = none → ch = 0
  ez : qz = none → cz = 0
theorem VIn.keep {w w' : World} {k : Int} {S : ByteArray} {ql : Option Addr} {nl cl : Nat} {qh : Option Addr} {nh ch : Nat} {qz : Option Addr} {nz cz : Nat} {d : V} (h : VIn w k S ql nl cl qh nh ch qz nz cz d) (hb : Below w.heap.size w w') : VIn w' k S ql nl cl qh nh ch qz nz cz d :=
  { h with rl := h.rl.keep hb, rh := h.rh.keep hb, rz := h.rz.keep hb }
/-- A value of whatever size that is handed in to a law: its parts. -/
structure VArg (w : World) (k : Int) (S : ByteArray) (ql : Option Addr) (nl cl : Nat) (qh : Option Addr) (nh ch : Nat) (qz : Option Addr) (nz cz : Nat) (d : V) : Prop where
  ek : k = (d.kind : Int)
  kb : d.kind ≤ 255
  es : S.data.toList = d.s
  rl : Rs strE w ql d.l
  rh : Rs prE w qh d.h
  rz : Rs mkE w qz d.z
  ll : d.l.length = nl
  lh : d.h.length = nh
  lz : d.z.length = nz
  bl : nl ≤ cl
  bh : nh ≤ ch
  bz : nz ≤ cz
  ml : cl ≤ 9223372036854775807
  mh : ch ≤ 9223372036854775807
  mz : cz ≤ 9223372036854775807
  el : ql = none → cl = 0
  eh : qh = none → ch = 0
  ez : qz = none → cz = 0
theorem VArg.keep {w w' : World} {k : Int} {S : ByteArray} {ql : Option Addr} {nl cl : Nat} {qh : Option Addr} {nh ch : Nat} {qz : Option Addr} {nz cz : Nat} {d : V} (h : VArg w k S ql nl cl qh nh ch qz nz cz d) (hb : Below w.heap.size w w') : VArg w' k S ql nl cl qh nh ch qz nz cz d :=
  { h with rl := h.rl.keep hb, rh := h.rh.keep hb, rz := h.rz.keep hb }
/-- A value that was answered, in new memory. -/
def VAns (base : Nat) (w : World) (v : Value) (d : V) : Prop :=
  ∃ S vl vh vz, v = .agg #[.int .u8 (d.kind : Int), .string S, vl, vh, vz] ∧ S.data.toList = d.s ∧ AnsR strE base w vl d.l ∧ AnsR prE base w vh d.h ∧ AnsR mkE base w vz d.z
theorem VAns.keep {base : Nat} {w w' : World} {v : Value} {d : V} (h : VAns base w v d) (hb : Below w.heap.size w w') : VAns base w' v d := by
  obtain ⟨S, vl, vh, vz, e, hs, h1, h2, h3⟩ := h
  exact ⟨S, vl, vh, vz, e, hs, h1.keep hb, h2.keep hb, h3.keep hb⟩
theorem VAns.low {b b' : Nat} {w : World} {v : Value} {d : V} (h : VAns b w v d) (hb : b' ≤ b) : VAns b' w v d := by
  obtain ⟨S, vl, vh, vz, e, hs, h1, h2, h3⟩ := h
  exact ⟨S, vl, vh, vz, e, hs, h1.low hb, h2.low hb, h3.low hb⟩
theorem VAns.vin {base : Nat} {w : World} {v : Value} {d : V} (h : VAns base w v d) (hk : d.kind ≤ 255) (h1 : d.l.length ≤ 1048576) (h2 : d.h.length ≤ 1048576) (h3 : d.z.length ≤ 1048576) :
    ∃ S ql cl qh ch qz cz, v = .agg #[.int .u8 (d.kind : Int), .string S, .slice ql d.l.length cl, .slice qh d.h.length ch, .slice qz d.z.length cz] ∧ VIn w (d.kind : Int) S ql d.l.length cl qh d.h.length ch qz d.z.length cz d ∧
      (∀ a, ql = some a → base ≤ a.block) ∧ (∀ a, qh = some a → base ≤ a.block) ∧ (∀ a, qz = some a → base ≤ a.block) := by
  obtain ⟨S, vl, vh, vz, rfl, hs, ⟨ql, cl, rfl, a1, a2, a3, a4, a5⟩, ⟨qh, ch, rfl, b1, b2, b3, b4, b5⟩, ⟨qz, cz, rfl, c1, c2, c3, c4, c5⟩⟩ := h
  exact ⟨S, ql, cl, qh, ch, qz, cz, rfl, ⟨rfl, hk, hs, a1, b1, c1, rfl, rfl, rfl, h1, h2, h3, a3, b3, c3, a4, b4, c4, a5, b5, c5⟩, a2, b2, c2⟩
theorem val_info : (Tryd.prog.info? 26).map (fun i => (i.zero, i.size)) = some (some (.agg #[.int .u8 0, .string ByteArray.empty, .slice none 0 0, .slice none 0 0, .slice none 0 0]), 5) := by kernel_rfl
theorem val_size : (Tryd.prog.info? 26).map (·.size) = some 5 := by kernel_rfl
/-- The cells of a value that lies in a block of its own. -/
structure VCells (w : World) (g : Nat) (x0 x1 x2 x3 x4 : Value) : Prop where
  lt : g < w.heap.size
  hp : w.heap[g]? = some (.cells #[x0, x1, x2, x3, x4] 26 (0, 0))
  c0 : w.cell? ⟨g, 0, none⟩ = some x0
  c1 : w.cell? ⟨g, 1, none⟩ = some x1
  c2 : w.cell? ⟨g, 2, none⟩ = some x2
  c3 : w.cell? ⟨g, 3, none⟩ = some x3
  c4 : w.cell? ⟨g, 4, none⟩ = some x4
theorem VCells.of {w : World} {g : Nat} {x0 x1 x2 x3 x4 : Value} (hp : w.heap[g]? = some (.cells #[x0, x1, x2, x3, x4] 26 (0, 0))) : VCells w g x0 x1 x2 x3 x4 := by
  refine ⟨(Array.getElem?_eq_some_iff.1 hp).1, hp, ?_, ?_, ?_, ?_, ?_⟩ <;> (rw [cell_of_row _ _ _ _ 26 _ hp]; rfl)
theorem VCells.new (w : World) (x0 x1 x2 x3 x4 : Value) (k : Nat) (hk : k = w.heap.size) : VCells (w.alloc (.cells #[x0, x1, x2, x3, x4] 26)) k x0 x1 x2 x3 x4 := by
  subst hk
  exact VCells.of (heap_alloc_last w _)
theorem VCells.keep {w w' : World} {g : Nat} {x0 x1 x2 x3 x4 : Value} (h : VCells w g x0 x1 x2 x3 x4) (hb : Below w.heap.size w w') : VCells w' g x0 x1 x2 x3 x4 :=
  VCells.of (by rw [hb.block g h.lt]; exact h.hp)
theorem VCells.frz {w : World} {g : Nat} {x0 x1 x2 x3 x4 : Value} (h : VCells w g x0 x1 x2 x3 x4) (j : Nat) : w.frozen? ⟨g, j, none⟩ = false := frozen_of_row _ _ _ _ 26 h.hp

/-! ### Prefixes, checked one by one -/
theorem rises_step {L : List (List UInt8)} {k : Nat} (hk : k + 1 < L.length) (h : rises (L.take (k + 1))) : (bytesLess L[k] L[k + 1] = true → rises (L.take (k + 2))) ∧ (bytesLess L[k] L[k + 1] = false → ¬ rises L) := by
  constructor
  · intro hl
    rw [List.take_succ_eq_append_getElem hk]
    refine List.pairwise_append.2 ⟨h, by simp, fun a ha b hb => ?_⟩
    rw [List.mem_singleton.1 hb]
    obtain ⟨j, hj, e⟩ := List.getElem_of_mem ha
    rw [List.getElem_take] at e
    rw [List.length_take] at hj
    rcases Nat.lt_or_ge j k with hjk | hjk
    · have h1 := List.pairwise_iff_getElem.1 h j k (by rw [List.length_take]; omega) (by rw [List.length_take]; omega) hjk
      rw [List.getElem_take, List.getElem_take, e] at h1
      exact less_trans _ _ _ h1 hl
    · obtain rfl : j = k := by omega
      rw [← e]
      exact hl
  · intro hl hr
    have h1 := List.pairwise_iff_getElem.1 hr k (k + 1) (by omega) hk (by omega)
    rw [hl] at h1
    cases h1
theorem marks_step {L : List Mk} {i : Nat} (hi : i < L.length) (h : marks (L.take i)) : (∀ k (hk : k < i), okM L[k] L[i]) → marks (L.take (i + 1)) := by
  intro hl
  rw [List.take_succ_eq_append_getElem hi]
  refine List.pairwise_append.2 ⟨h, by simp, fun a ha b hb => ?_⟩
  rw [List.mem_singleton.1 hb]
  obtain ⟨j, hj, e⟩ := List.getElem_of_mem ha
  rw [List.getElem_take] at e
  rw [List.length_take] at hj
  rw [← e]
  exact hl j (by omega)
theorem marks_not {L : List Mk} {i k : Nat} (hi : i < L.length) (hk : k < i) (h : ¬ okM L[k] L[i]) : ¬ marks L := fun hm => h (List.pairwise_iff_getElem.1 hm k i (by omega) hi hk)
theorem bytes_of (l : List UInt8) : (⟨l.toArray⟩ : ByteArray).toList = l := by rw [ByteArray.toList_eq]
theorem names_take (L : List Pr) (k : Nat) (h : k < L.length) : names (L.take (k + 1)) = names (L.take k) ++ [L[k].name] := by
  rw [List.take_succ_eq_append_getElem h]
  unfold names
  rw [List.map_append]
  rfl

end Go.Proofs.YtodpocciimbjbaaDoor.ValT
namespace Go.Proofs.YtodpocciimbjbaaDoor.RefV
open Go.RowKit Kit StrT RowG BOrd ValT
open Go.Op (bytesLess)
set_option linter.unusedVariables false
set_option maxRecDepth 100000

theorem drewN_below {B : Nat} {a w : World} (h : Below B a w) (q : Nat) : Below B a (w.drewN q) := h.trans ⟨rfl, rfl, rfl, Nat.le_refl _, fun _ _ => rfl⟩
theorem ss_at {w : World} {q : Option Addr} {L : List (List UInt8)} (h : Ss w q L) (k : Nat) (hk : k < L.length) : ∃ b off, q = some ⟨b, off, none⟩ ∧ b < w.heap.size ∧ w.cell? ⟨b, off + k, none⟩ = some (.string ⟨L[k].toArray⟩) := by
  obtain ⟨b, off, hp, hlt, hc⟩ := h (by omega)
  exact ⟨b, off, hp, hlt, hc k hk⟩

def TextsA (L : List (List UInt8)) (w : World) (e : Ending) (w' : World) : Prop := ∃ v, e = .returned v ∧ AnsR strE w.heap.size w' v L ∧ Below w.heap.size w w'

end Go.Proofs.YtodpocciimbjbaaDoor.RefV
namespace Go.Proofs.YtodpocciimbjbaaDoor.ValT
open Go.RowKit Kit StrT RowG BOrd RefV
set_option linter.unusedVariables false
set_option maxRecDepth 100000

/-- A copy of a value. -/
def OwnP (d : V) (w : World) (e : Ending) (w' : World) : Prop :=
  ∃ S vl vh vz, e = .returned (.agg #[.int .u8 (d.kind : Int), .string S, vl, vh, vz]) ∧ S.data.toList = d.s ∧ RowO strE w.heap.size w' vl d.l ∧ RowO prE w.heap.size w' vh d.h ∧ RowO mkE w.heap.size w' vz d.z ∧ Below w.heap.size w w'

end Go.Proofs.YtodpocciimbjbaaDoor.ValT
