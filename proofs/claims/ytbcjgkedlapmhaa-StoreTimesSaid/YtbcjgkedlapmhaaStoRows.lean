/-
  Stores as they lie in memory: what a call may change, values with where they lie, the document's own store (package tipstaffref10).
-/
import Derived.Test.YtbcjgkedlapmhaaValRows
import Derived.Test.YtbcjgkedlapmhaaStoMath
import Derived.Test.YtbcjgkedlapmhaaOwnB
namespace Go.Proofs.Ytbcjgkedlapmhaa.StoT
open Go.RowKit Kit StrT RowG BOrd ValT
open Go.Op (bytesLess)
set_option linter.unusedVariables false
set_option maxRecDepth 100000

/-- Nothing that was there has changed, but in some blocks. -/
structure Off (F : Nat → Prop) (w w' : World) : Prop where
  os : w'.os = w.os
  tape : w'.tape = w.tape
  output : w'.output = w.output
  size : w.heap.size ≤ w'.heap.size
  block : ∀ k, k < w.heap.size → ¬ F k → w'.heap[k]? = w.heap[k]?
theorem Off.refl (F : Nat → Prop) (w : World) : Off F w w := ⟨rfl, rfl, rfl, Nat.le_refl _, fun _ _ _ => rfl⟩
theorem Off.of_below {F : Nat → Prop} {w w' : World} (h : Below w.heap.size w w') : Off F w w' := ⟨h.os, h.tape, h.output, h.size, fun k hk _ => h.block k hk⟩
/-- A set of blocks grown by new ones alone. -/
def Gr (w : World) (F F' : Nat → Prop) : Prop := ∀ k, F' k → F k ∨ w.heap.size ≤ k
theorem Gr.refl (w : World) (F : Nat → Prop) : Gr w F F := fun k h => Or.inl h
theorem Gr.trans {w w' : World} {F F' F'' : Nat → Prop} (h : Gr w F F') (h' : Gr w' F' F'') (hs : w.heap.size ≤ w'.heap.size) : Gr w F F'' := fun k hk => by
  rcases h' k hk with h1 | h1
  · exact h k h1
  · exact Or.inr (Nat.le_trans hs h1)
theorem Off.trans {F F' : Nat → Prop} {w w' w'' : World} (h : Off F w w') (h' : Off F' w' w'') (hg : Gr w F F') : Off F w w'' := by
  refine ⟨h'.os.trans h.os, h'.tape.trans h.tape, h'.output.trans h.output, Nat.le_trans h.size h'.size, fun k hk hF => ?_⟩
  rw [h'.block k (Nat.lt_of_lt_of_le hk h.size) (fun h1 => ?_)]
  · exact h.block k hk hF
  · rcases hg k h1 with h2 | h2
    · exact hF h2
    · omega
theorem Off.below {F : Nat → Prop} {w0 w w' : World} (h : Off F w w') (hb : Below w0.heap.size w0 w) (hF : ∀ k, F k → w0.heap.size ≤ k) : Below w0.heap.size w0 w' :=
  ⟨h.os.trans hb.os, h.tape.trans hb.tape, h.output.trans hb.output, Nat.le_trans hb.size h.size, fun k hk => by
    rw [h.block k (Nat.lt_of_lt_of_le hk hb.size) (fun h1 => by have := hF k h1; omega)]
    exact hb.block k hk⟩

/-- A row stays where its block does. -/
theorem Rs.same {α : Type} {E : Enc α} {w w' : World} {q : Option Addr} {L : List α} (h : Rs E w q L) (hs : w.heap.size ≤ w'.heap.size) (hk : 0 < L.length → ∀ a, q = some a → w'.heap[a.block]? = w.heap[a.block]?) : Rs E w' q L := by
  intro h0
  obtain ⟨b, off, e, hlt, hc⟩ := h h0
  refine ⟨b, off, e, by omega, fun j hj => ?_⟩
  rw [← hc j hj]
  simp [World.cell?, hk h0 _ e]
/-- A value with where it lies. -/
structure PV where
  k : Int
  S : ByteArray
  ql : Option Addr
  nl : Nat
  cl : Nat
  qh : Option Addr
  nh : Nat
  ch : Nat
  qz : Option Addr
  nz : Nat
  cz : Nat
  d : V
def PV.In (w : World) (p : PV) : Prop := VIn w p.k p.S p.ql p.nl p.cl p.qh p.nh p.ch p.qz p.nz p.cz p.d
/-- The blocks in which it lies. -/
def PV.at_ (p : PV) (k : Nat) : Prop := (0 < p.d.l.length ∧ ∃ a, p.ql = some a ∧ a.block = k) ∨ (0 < p.d.h.length ∧ ∃ a, p.qh = some a ∧ a.block = k) ∨ (0 < p.d.z.length ∧ ∃ a, p.qz = some a ∧ a.block = k)
theorem PV.In.same {w w' : World} {p : PV} (h : p.In w) (hs : w.heap.size ≤ w'.heap.size) (hk : ∀ k, p.at_ k → w'.heap[k]? = w.heap[k]?) : p.In w' := by
  unfold PV.In at h ⊢
  exact { h with rl := Rs.same h.rl hs (fun h0 a ha => hk _ (Or.inl ⟨h0, a, ha, rfl⟩)), rh := Rs.same h.rh hs (fun h0 a ha => hk _ (Or.inr (Or.inl ⟨h0, a, ha, rfl⟩))), rz := Rs.same h.rz hs (fun h0 a ha => hk _ (Or.inr (Or.inr ⟨h0, a, ha, rfl⟩))) }
def PV.agg (p : PV) : Value := .agg #[.int .u8 p.k, .string p.S, .slice p.ql p.nl p.cl, .slice p.qh p.nh p.ch, .slice p.qz p.nz p.cz]
def pv0 : PV := ⟨0, ⟨#[]⟩, none, 0, 0, none, 0, 0, none, 0, 0, v0⟩
theorem pv0_in (w : World) : pv0.In w := ⟨rfl, by decide, rfl, Rs.nil _ _ _, Rs.nil _ _ _, Rs.nil _ _ _, rfl, rfl, rfl, by decide, by decide, by decide, by decide, by decide, by decide, by decide, by decide, by decide, fun _ => rfl, fun _ => rfl, fun _ => rfl⟩
theorem pv0_at (k : Nat) : ¬ pv0.at_ k := by
  unfold PV.at_ pv0
  simp
/-- A value that was answered in new memory. -/
theorem pv_of {base : Nat} {w : World} {v : Value} {d : V} (h : VAns base w v d) (hk : d.kind ≤ 255) (h1 : d.l.length ≤ 1048576) (h2 : d.h.length ≤ 1048576) (h3 : d.z.length ≤ 1048576) : ∃ p : PV, v = p.agg ∧ p.In w ∧ p.d = d ∧ p.k = (d.kind : Int) ∧ ∀ k, p.at_ k → base ≤ k ∧ k < w.heap.size := by
  obtain ⟨S, ql, cl, qh, ch, qz, cz, rfl, hV, b1, b2, b3⟩ := h.vin hk h1 h2 h3
  refine ⟨⟨(d.kind : Int), S, ql, _, cl, qh, _, ch, qz, _, cz, d⟩, rfl, hV, rfl, rfl, fun k hk => ?_⟩
  have lt : ∀ {α : Type} {E : Enc α} {q : Option Addr} {L : List α}, Rs E w q L → 0 < L.length → ∀ a, q = some a → a.block < w.heap.size := fun hR h0 a ha => by
    obtain ⟨b, off, e, hlt, -⟩ := hR h0
    rw [ha] at e
    injection e with e
    subst e
    exact hlt
  rcases hk with ⟨h0, a, ha, rfl⟩ | ⟨h0, a, ha, rfl⟩ | ⟨h0, a, ha, rfl⟩
  · exact ⟨b1 a ha, lt hV.rl h0 a ha⟩
  · exact ⟨b2 a ha, lt hV.rh h0 a ha⟩
  · exact ⟨b3 a ha, lt hV.rz h0 a ha⟩

/-- Entries and counts of the document's own store. -/
def enE : Enc (En PV) where
  enc e := [.string ⟨e.key.toArray⟩, .int .u8 e.v.k, .string e.v.S, .slice e.v.ql e.v.nl e.v.cl, .slice e.v.qh e.v.nh e.v.ch, .slice e.v.qz e.v.nz e.v.cz, .int .i64 e.due, .bool e.on, .bool e.past]
  sz := 9
  bytes := 128
  ty := 70
  slt := 27
  zero := .agg #[.string ByteArray.empty, .int .u8 0, .string ByteArray.empty, .slice none 0 0, .slice none 0 0, .slice none 0 0, .int .i64 0, .bool false, .bool false]
  len _ := rfl
  one a u hu := by
    simp at hu
    rcases hu with rfl | rfl | rfl | rfl | rfl | rfl | rfl | rfl | rfl <;> rfl
  pos := by decide
  info := by kernel_rfl
  zlen := rfl
  by64 := by decide
  und := by kernel_rfl
structure Cn where
  key : List UInt8
  n : Nat
def cnE : Enc Cn where
  enc e := [.string ⟨e.key.toArray⟩, .int .i64 e.n]
  sz := 2
  bytes := 24
  ty := 82
  slt := 28
  zero := .agg #[.string ByteArray.empty, .int .i64 0]
  len _ := rfl
  one a u hu := by
    simp at hu
    rcases hu with rfl | rfl <;> rfl
  pos := by decide
  info := by kernel_rfl
  zlen := rfl
  by64 := by decide
  und := by kernel_rfl
/-- A row of a store's own: none, or a block of its own. -/
def RowY {α : Type} (E : Enc α) (w : World) (q : Option Addr) (n c : Nat) (L : List α) : Prop := (q = none ∧ n = 0 ∧ c = 0 ∧ L = []) ∨ ∃ g, q = some ⟨g, 0, none⟩ ∧ OwnB E w g n c L
section
variable {α : Type} {E : Enc α} {w w' : World} {q : Option Addr} {n c : Nat} {L : List α}
theorem RowY.len (h : RowY E w q n c L) : L.length = n := by
  rcases h with ⟨-, rfl, -, rfl⟩ | ⟨g, -, h⟩
  · rfl
  · exact h.1
theorem RowY.rs (h : RowY E w q n c L) : Rs E w q L := by
  rcases h with ⟨-, -, -, rfl⟩ | ⟨g, rfl, h⟩
  · exact Rs.nil _ _ _
  · exact h.rs
theorem RowY.cap (h : RowY E w q n c L) : n ≤ c ∧ c ≤ 9223372036854775807 ∧ (q = none → c = 0) := by
  rcases h with ⟨-, rfl, rfl, -⟩ | ⟨g, rfl, h⟩
  · exact ⟨Nat.le_refl _, by decide, fun _ => rfl⟩
  · obtain ⟨-, h1, cur, -, h2, -⟩ := h
    exact ⟨h1, h2, fun h => by cases h⟩
theorem RowY.same (h : RowY E w q n c L) (hk : ∀ a, q = some a → w'.heap[a.block]? = w.heap[a.block]?) : RowY E w' q n c L := by
  rcases h with h | ⟨g, rfl, h1, h2, cur, h3, h4⟩
  · exact Or.inl h
  · exact Or.inr ⟨g, rfl, h1, h2, cur, by rw [hk _ rfl]; exact h3, h4⟩
theorem RowY.lt (h : RowY E w q n c L) : ∀ a, q = some a → a.block < w.heap.size := by
  rcases h with ⟨rfl, -⟩ | ⟨g, rfl, h⟩
  · intro a h; cases h
  · intro a ha
    injection ha with ha
    subst ha
    exact h.lt
theorem rowY_of {base : Nat} {v : Value} (h : OwnR E base w v L) : ∃ q c, v = .slice q L.length c ∧ RowY E w q L.length c L ∧ ∀ a, q = some a → base ≤ a.block := by
  rcases id h.2 with ⟨rfl, h0⟩ | ⟨g, cap, cur, rfl, hgb, hh, hc, hm, hsz, htake⟩
  · obtain rfl : L = [] := List.eq_nil_of_length_eq_zero h0
    exact ⟨none, 0, rfl, Or.inl ⟨rfl, rfl, rfl, rfl⟩, fun a h => by cases h⟩
  · unfold maxLen at hm
    exact ⟨_, cap, rfl, Or.inr ⟨g, rfl, rfl, hc, cur, hh, by omega, hsz, htake⟩, fun a h => by injection h with h; subst h; exact hgb⟩
/-- A row of its own is a row as laws for appends ask it. -/
theorem RowY.own (h : RowY E w q n c L) (base : Nat) (hb : ∀ a, q = some a → base ≤ a.block) : OwnR E base w (.slice q n c) L := by
  rcases h with ⟨rfl, rfl, rfl, rfl⟩ | ⟨g, rfl, rfl, h2, cur, h3, h4, h5, h6⟩
  · exact ownR_nil E base w
  · exact ⟨flat_len E L, Or.inr ⟨g, c, cur, rfl, hb _ rfl, h3, h2, by unfold maxLen; omega, h5, h6⟩⟩
end

/-- The document's own store as it lies in memory. -/
structure YR (w : World) (y : Nat) (ql : Option Addr) (nl cl : Nat) (qc : Option Addr) (nc cc : Nat) (P : List (En PV)) (Q : List Cn) (t : Nat) : Prop where
  hp : w.heap[y]? = some (.cells #[.slice ql nl cl, .slice qc nc cc, .int .i64 t] 30 (0, 0))
  rl : RowY enE w ql nl cl P
  rc : RowY cnE w qc nc cc Q
  yl : ∀ a, ql = some a → a.block ≠ y
  yc : ∀ a, qc = some a → a.block ≠ y
  lc : ∀ a b, ql = some a → qc = some b → a.block ≠ b.block
def FY (y : Nat) (ql qc : Option Addr) (k : Nat) : Prop := k = y ∨ (∃ a, ql = some a ∧ a.block = k) ∨ ∃ a, qc = some a ∧ a.block = k
theorem YR.lt {w : World} {y : Nat} {ql : Option Addr} {nl cl : Nat} {qc : Option Addr} {nc cc : Nat} {P : List (En PV)} {Q : List Cn} {t : Nat} (h : YR w y ql nl cl qc nc cc P Q t) : ∀ k, FY y ql qc k → k < w.heap.size := by
  intro k hk
  rcases hk with rfl | ⟨a, ha, rfl⟩ | ⟨a, ha, rfl⟩
  · exact (Array.getElem?_eq_some_iff.1 h.hp).1
  · exact h.rl.lt a ha
  · exact h.rc.lt a ha
theorem YR.same {w w' : World} {y : Nat} {ql : Option Addr} {nl cl : Nat} {qc : Option Addr} {nc cc : Nat} {P : List (En PV)} {Q : List Cn} {t : Nat} (h : YR w y ql nl cl qc nc cc P Q t) (hk : ∀ k, FY y ql qc k → w'.heap[k]? = w.heap[k]?) : YR w' y ql nl cl qc nc cc P Q t :=
  { h with hp := by rw [hk y (Or.inl rfl)]; exact h.hp, rl := h.rl.same (fun a ha => hk _ (Or.inr (Or.inl ⟨a, ha, rfl⟩))), rc := h.rc.same (fun a ha => hk _ (Or.inr (Or.inr ⟨a, ha, rfl⟩))) }
def low (p : PV) : V := p.d
def cntL (Q : List Cn) (k : List UInt8) : Nat := ((Q.find? fun c => decide (c.key = k)).map (·.n)).getD 0
/-- The document's own store, its values and its counts. -/
structure YV (w : World) (y : Nat) (ql qc : Option Addr) (P : List (En PV)) (Q : List Cn) (D : Sd V) (R : Nat → Prop) : Prop where
  dl : D.L = mapL low P
  dc : ∀ k, cntL Q k = D.C k
  nq : Q.length ≤ D.n
  qn : ∀ x ∈ Q, x.n ≤ sq D.n
  wf : Wf D
  vi : ∀ e ∈ P, e.v.In w
  va : ∀ e ∈ P, ∀ k, e.v.at_ k → R k
  rf : ∀ k, R k → k < w.heap.size ∧ ¬ FY y ql qc k
def YSt (w : World) (y : Nat) (D : Sd V) (F R : Nat → Prop) : Prop :=
  ∃ ql nl cl qc nc cc P Q, YR w y ql nl cl qc nc cc P Q D.time ∧ YV w y ql qc P Q D R ∧ F = FY y ql qc
theorem YSt.lt {w : World} {y : Nat} {D : Sd V} {F R : Nat → Prop} (h : YSt w y D F R) : ∀ k, F k ∨ R k → k < w.heap.size := by
  obtain ⟨ql, nl, cl, qc, nc, cc, P, Q, h1, h2, rfl⟩ := h
  intro k hk
  rcases hk with hk | hk
  · exact h1.lt k hk
  · exact (h2.rf k hk).1
theorem YSt.same {w w' : World} {y : Nat} {D : Sd V} {F R : Nat → Prop} (h : YSt w y D F R) (hs : w.heap.size ≤ w'.heap.size) (hk : ∀ k, F k ∨ R k → w'.heap[k]? = w.heap[k]?) : YSt w' y D F R := by
  obtain ⟨ql, nl, cl, qc, nc, cc, P, Q, h1, h2, rfl⟩ := h
  exact ⟨ql, nl, cl, qc, nc, cc, P, Q, h1.same (fun k h => hk k (Or.inl h)), { h2 with vi := fun e he => (h2.vi e he).same hs (fun k h => hk k (Or.inr (h2.va e he k h))), rf := fun k h => ⟨Nat.lt_of_lt_of_le (h2.rf k h).1 hs, (h2.rf k h).2⟩ }, rfl⟩
theorem YSt.wf {w : World} {y : Nat} {D : Sd V} {F R : Nat → Prop} (h : YSt w y D F R) : Wf D := by
  obtain ⟨ql, nl, cl, qc, nc, cc, P, Q, h1, h2, rfl⟩ := h
  exact h2.wf
/-- What a thing that is done to a store leaves. -/
def Step (St : World → Sd V → (Nat → Prop) → (Nat → Prop) → Prop) (w : World) (F R : Nat → Prop) (D' : Sd V) (w' : World) : Prop := ∃ F' R', St w' D' F' R' ∧ Off F w w' ∧ Gr w F F' ∧ Gr w R R'
end Go.Proofs.Ytbcjgkedlapmhaa.StoT
