/-
  Two stores side by side, in memory of their own each, and what neither of them changes.
-/
import Derived.Test.YtbcjgkedlapmhaaStoOps
namespace Go.Proofs.Ytbcjgkedlapmhaa.StoT
open Go.RowKit Kit StrT RowG BOrd ValT
set_option linter.unusedVariables false
set_option maxRecDepth 100000

abbrev StK := World → Sd V → (Nat → Prop) → (Nat → Prop) → Prop
/-- What any store in memory must keep to. -/
structure Stb (St : StK) : Prop where
  lt : ∀ {w D F R}, St w D F R → ∀ k, F k ∨ R k → k < w.heap.size
  dis : ∀ {w D F R}, St w D F R → ∀ k, R k → ¬ F k
  same : ∀ {w w' D F R}, St w D F R → w.heap.size ≤ w'.heap.size → (∀ k, F k ∨ R k → w'.heap[k]? = w.heap[k]?) → St w' D F R
def NoSt : StK := fun w D F R => F = (fun _ => False) ∧ R = (fun _ => False)
theorem noSt_stb : Stb NoSt := by
  refine ⟨fun h k hk => ?_, fun h k hk => ?_, fun h _ _ => h⟩
  · obtain ⟨rfl, rfl⟩ := h
    exact (hk.elim id id).elim
  · obtain ⟨rfl, rfl⟩ := h
    exact hk.elim
/-- Two stores, beside blocks X that neither changes, above a world. -/
structure TwS (A B : StK) (w0 : World) (X : Nat → Prop) (w : World) (D E : Sd V) (F R G S : Nat → Prop) : Prop where
  a : A w D F R
  b : B w E G S
  fg : ∀ k, F k → ¬ G k ∧ ¬ S k ∧ ¬ X k ∧ w0.heap.size ≤ k
  gf : ∀ k, G k → ¬ R k ∧ ¬ X k ∧ w0.heap.size ≤ k
  xl : ∀ k, X k → k < w.heap.size
  bl : Below w0.heap.size w0 w
def Tw (A B : StK) (w0 : World) (X : Nat → Prop) (w : World) (D E : Sd V) : Prop := ∃ F R G S, TwS A B w0 X w D E F R G S
def Keep (X : Nat → Prop) (w w' : World) : Prop := w.heap.size ≤ w'.heap.size ∧ ∀ k, X k → w'.heap[k]? = w.heap[k]?
section
variable {A B : StK} {w0 w w' : World} {X : Nat → Prop} {D D' E E' : Sd V}
theorem Tw.swap (h : Tw A B w0 X w D E) : Tw B A w0 X w E D := by
  obtain ⟨F, R, G, S, h⟩ := h
  exact ⟨G, S, F, R, h.b, h.a, fun k hk => ⟨fun h1 => (h.fg k h1).1 hk, (h.gf k hk).1, (h.gf k hk).2.1, (h.gf k hk).2.2⟩, fun k hk => ⟨(h.fg k hk).2.1, (h.fg k hk).2.2.1, (h.fg k hk).2.2.2⟩, h.xl, h.bl⟩
theorem Tw.below (h : Tw A B w0 X w D E) : Below w0.heap.size w0 w := by
  obtain ⟨F, R, G, S, h⟩ := h
  exact h.bl
theorem Tw.less {Y : Nat → Prop} (h : Tw A B w0 X w D E) (hy : ∀ k, Y k → X k) : Tw A B w0 Y w D E := by
  obtain ⟨F, R, G, S, h⟩ := h
  exact ⟨F, R, G, S, h.a, h.b, fun k hk => ⟨(h.fg k hk).1, (h.fg k hk).2.1, fun h1 => (h.fg k hk).2.2.1 (hy k h1), (h.fg k hk).2.2.2⟩, fun k hk => ⟨(h.gf k hk).1, fun h1 => (h.gf k hk).2.1 (hy k h1), (h.gf k hk).2.2⟩, fun k hk => h.xl k (hy k hk), h.bl⟩
/-- What was there, and what is new, over a call that changes nothing that was there. -/
theorem Tw.on (SA : Stb A) (SB : Stb B) (h : Tw A B w0 X w D E) (hb : Below w.heap.size w w') : Tw A B w0 (fun k => X k ∨ (w.heap.size ≤ k ∧ k < w'.heap.size)) w' D E ∧ Keep X w w' := by
  obtain ⟨F, R, G, S, h⟩ := h
  refine ⟨⟨F, R, G, S, SA.same h.a hb.size (fun k hk => hb.block k (SA.lt h.a k hk)), SB.same h.b hb.size (fun k hk => hb.block k (SB.lt h.b k hk)), fun k hk => ⟨(h.fg k hk).1, (h.fg k hk).2.1, fun h1 => ?_, (h.fg k hk).2.2.2⟩, fun k hk => ⟨(h.gf k hk).1, fun h1 => ?_, (h.gf k hk).2.2⟩, fun k hk => ?_, h.bl.trans (hb.mono h.bl.size)⟩, hb.size, fun k hk => hb.block k (h.xl k hk)⟩
  · rcases h1 with h1 | h1
    · exact (h.fg k hk).2.2.1 h1
    · exact absurd (SA.lt h.a k (Or.inl hk)) (Nat.not_lt.2 h1.1)
  · rcases h1 with h1 | h1
    · exact (h.gf k hk).2.1 h1
    · exact absurd (SB.lt h.b k (Or.inl hk)) (Nat.not_lt.2 h1.1)
  · rcases hk with hk | hk
    · exact Nat.lt_of_lt_of_le (h.xl k hk) hb.size
    · exact hk.2
theorem TwS.step {F R G S F' R' Rp : Nat → Prop} (SA : Stb A) (SB : Stb B) (h : TwS A B w0 X w D E F R G S) (ha : A w' D' F' R') (ho : Off F w w') (hf : Gr w F F') (hr : Gr w (fun k => R k ∨ Rp k) R') (hp : ∀ k, Rp k → ¬ G k) : TwS A B w0 X w' D' E F' R' G S ∧ Keep X w w' := by
  have hg : ∀ k, G k ∨ S k → w'.heap[k]? = w.heap[k]? := fun k hk => ho.block k (SB.lt h.b k hk) (fun h1 => by
    rcases hk with hk | hk
    · exact (h.fg k h1).1 hk
    · exact (h.fg k h1).2.1 hk)
  refine ⟨⟨ha, SB.same h.b ho.size hg, fun k hk => ?_, fun k hk => ⟨fun h1 => ?_, (h.gf k hk).2.1, (h.gf k hk).2.2⟩, fun k hk => Nat.lt_of_lt_of_le (h.xl k hk) ho.size, ho.below h.bl (fun k hk => (h.fg k hk).2.2.2)⟩, ho.size, fun k hk => ho.block k (h.xl k hk) (fun h1 => (h.fg k h1).2.2.1 hk)⟩
  · rcases hf k hk with h1 | h1
    · exact h.fg k h1
    · exact ⟨fun h2 => absurd (SB.lt h.b k (Or.inl h2)) (Nat.not_lt.2 h1), fun h2 => absurd (SB.lt h.b k (Or.inr h2)) (Nat.not_lt.2 h1), fun h2 => absurd (h.xl k h2) (Nat.not_lt.2 h1), Nat.le_trans h.bl.size h1⟩
  · rcases hr k h1 with (h2 | h2) | h2
    · exact (h.gf k hk).1 h2
    · exact hp k h2 hk
    · exact absurd (SB.lt h.b k (Or.inl hk)) (Nat.not_lt.2 h2)
variable {P : Program} {f : FuncId} {args : Array Value} {v : Value}
/-- A thing that is done to the first. -/
theorem Tw.do1 (SA : Stb A) (SB : Stb B) (h : Tw A B w0 X w D E) (hc : ∀ F R, A w D F R → Calls P f args w fun e w' => e = .returned v ∧ Step A w F R D' w') : Calls P f args w fun e w' => e = .returned v ∧ Tw A B w0 X w' D' E ∧ Keep X w w' := by
  obtain ⟨F, R, G, S, h⟩ := h
  refine (hc F R h.a).mono ?_
  rintro e w' ⟨rfl, F', R', ha, ho, hf, hr⟩
  obtain ⟨h1, h2⟩ := h.step (Rp := fun _ => False) SA SB ha ho hf (fun k hk => (hr k hk).imp Or.inl id) (fun k hk => hk.elim)
  exact ⟨rfl, ⟨F', R', G, S, h1⟩, h2⟩
theorem Tw.do2 (SA : Stb A) (SB : Stb B) (h : Tw A B w0 X w D E) (hc : ∀ F R, B w E F R → Calls P f args w fun e w' => e = .returned v ∧ Step B w F R E' w') : Calls P f args w fun e w' => e = .returned v ∧ Tw A B w0 X w' D E' ∧ Keep X w w' :=
  (h.swap.do1 SB SA hc).mono fun _ _ h => ⟨h.1, h.2.1.swap, h.2.2⟩
/-- A value put into the first, of blocks that neither changes. -/
theorem Tw.put1 (SA : Stb A) (SB : Stb B) (h : Tw A B w0 X w D E) (Rp : Nat → Prop) (hp : ∀ k, Rp k → X k) (hc : ∀ F R, A w D F R → (∀ k, Rp k → k < w.heap.size ∧ ¬ F k) → Calls P f args w fun e w' => e = .returned v ∧ StepP A w F R Rp D' w') : Calls P f args w fun e w' => e = .returned v ∧ Tw A B w0 X w' D' E ∧ Keep X w w' := by
  obtain ⟨F, R, G, S, h⟩ := h
  refine (hc F R h.a (fun k hk => ⟨h.xl k (hp k hk), fun h1 => (h.fg k h1).2.2.1 (hp k hk)⟩)).mono ?_
  rintro e w' ⟨rfl, F', R', ha, ho, hf, hr⟩
  obtain ⟨h1, h2⟩ := h.step SA SB ha ho hf hr (fun k hk h1 => (h.gf k h1).2.1 (hp k hk))
  exact ⟨rfl, ⟨F', R', G, S, h1⟩, h2⟩
theorem Tw.put2 (SA : Stb A) (SB : Stb B) (h : Tw A B w0 X w D E) (Rp : Nat → Prop) (hp : ∀ k, Rp k → X k) (hc : ∀ F R, B w E F R → (∀ k, Rp k → k < w.heap.size ∧ ¬ F k) → Calls P f args w fun e w' => e = .returned v ∧ StepP B w F R Rp E' w') : Calls P f args w fun e w' => e = .returned v ∧ Tw A B w0 X w' D E' ∧ Keep X w w' :=
  (h.swap.put1 SB SA Rp hp hc).mono fun _ _ h => ⟨h.1, h.2.1.swap, h.2.2⟩
/-- A value that is answered by the first: neither changes it. -/
def GotV (A B : StK) (w0 : World) (X : Nat → Prop) (w : World) (D E : Sd V) (d : V) (e : Ending) (w' : World) : Prop := ∃ p : PV, e = .returned p.agg ∧ p.In w' ∧ p.d = d ∧ Tw A B w0 (fun k => X k ∨ p.at_ k) w' D E ∧ Keep X w w'
theorem Tw.get1 {d : V} (SA : Stb A) (SB : Stb B) (h : Tw A B w0 X w D E) (hc : ∀ F R, A w D F R → Calls P f args w (ToldV A w F R D' d)) : Calls P f args w (GotV A B w0 X w D' E d) := by
  obtain ⟨F, R, G, S, h⟩ := h
  refine (hc F R h.a).mono ?_
  rintro e w' ⟨p, rfl, hp, hd, F', R', ha, ho, hf, hr, hat⟩
  obtain ⟨h1, h2⟩ := h.step (Rp := fun _ => False) SA SB ha ho hf (fun k hk => (hr k hk).imp Or.inl id) (fun k hk => hk.elim)
  refine ⟨p, rfl, hp, hd, ⟨F', R', G, S, h1.a, h1.b, fun k hk => ⟨(h1.fg k hk).1, (h1.fg k hk).2.1, fun h3 => ?_, (h1.fg k hk).2.2.2⟩, fun k hk => ⟨(h1.gf k hk).1, fun h3 => ?_, (h1.gf k hk).2.2⟩, fun k hk => ?_, h1.bl⟩, h2⟩
  · rcases h3 with h3 | h3
    · exact (h1.fg k hk).2.2.1 h3
    · exact SA.dis ha k (hat k h3) hk
  · rcases h3 with h3 | h3
    · exact (h1.gf k hk).2.1 h3
    · exact (h1.gf k hk).1 (hat k h3)
  · rcases hk with hk | hk
    · exact h1.xl k hk
    · exact SA.lt ha k (Or.inr (hat k hk))
theorem Tw.get2 {d : V} (SA : Stb A) (SB : Stb B) (h : Tw A B w0 X w D E) (hc : ∀ F R, B w E F R → Calls P f args w (ToldV B w F R E' d)) : Calls P f args w (GotV A B w0 X w D E' d) :=
  (h.swap.get1 SB SA hc).mono fun _ _ ⟨p, a, b, c, d, e⟩ => ⟨p, a, b, c, d.swap, e⟩
/-- A row of texts that is answered by the first. -/
def GotL (A B : StK) (w0 : World) (X : Nat → Prop) (w : World) (D E : Sd V) (L : List (List UInt8)) (e : Ending) (w' : World) : Prop := ∃ q c, e = .returned (.slice q L.length c) ∧ Rs strE w' q L ∧ L.length ≤ c ∧ c ≤ 9223372036854775807 ∧ (q = none → c = 0) ∧ Tw A B w0 (fun k => X k ∨ (0 < L.length ∧ ∃ a, q = some a ∧ a.block = k)) w' D E ∧ Keep X w w'
def ToldL (St : StK) (w : World) (F R : Nat → Prop) (D' : Sd V) (L : List (List UInt8)) (e : Ending) (w' : World) : Prop := ∃ q c, e = .returned (.slice q L.length c) ∧ Rs strE w' q L ∧ L.length ≤ c ∧ c ≤ 9223372036854775807 ∧ (q = none → c = 0) ∧ ∃ F' R', St w' D' F' R' ∧ Off F w w' ∧ Gr w F F' ∧ Gr w R R' ∧ (0 < L.length → ∀ a, q = some a → w.heap.size ≤ a.block ∧ a.block < w'.heap.size ∧ ¬ F' a.block)
theorem Tw.list1 {L : List (List UInt8)} (SA : Stb A) (SB : Stb B) (h : Tw A B w0 X w D E) (hc : ∀ F R, A w D F R → Calls P f args w (ToldL A w F R D' L)) : Calls P f args w (GotL A B w0 X w D' E L) := by
  obtain ⟨F, R, G, S, h⟩ := h
  refine (hc F R h.a).mono ?_
  rintro e w' ⟨q, c, rfl, hR, hc1, hc2, hc3, F', R', ha, ho, hf, hr, hat⟩
  obtain ⟨h1, h2⟩ := h.step (Rp := fun _ => False) SA SB ha ho hf (fun k hk => (hr k hk).imp Or.inl id) (fun k hk => hk.elim)
  refine ⟨q, c, rfl, hR, hc1, hc2, hc3, ⟨F', R', G, S, h1.a, h1.b, fun k hk => ⟨(h1.fg k hk).1, (h1.fg k hk).2.1, fun h3 => ?_, (h1.fg k hk).2.2.2⟩, fun k hk => ⟨(h1.gf k hk).1, fun h3 => ?_, (h1.gf k hk).2.2⟩, fun k hk => ?_, h1.bl⟩, h2⟩
  · rcases h3 with h3 | ⟨h0, a, e, rfl⟩
    · exact (h1.fg k hk).2.2.1 h3
    · exact (hat h0 a e).2.2 hk
  · rcases h3 with h3 | ⟨h0, a, e, rfl⟩
    · exact (h1.gf k hk).2.1 h3
    · exact absurd (SB.lt h.b _ (Or.inl hk)) (Nat.not_lt.2 (hat h0 a e).1)
  · rcases hk with hk | ⟨h0, a, e, rfl⟩
    · exact h1.xl k hk
    · exact (hat h0 a e).2.1
theorem Tw.list2 {L : List (List UInt8)} (SA : Stb A) (SB : Stb B) (h : Tw A B w0 X w D E) (hc : ∀ F R, B w E F R → Calls P f args w (ToldL B w F R E' L)) : Calls P f args w (GotL A B w0 X w D E' L) :=
  (h.swap.list1 SB SA hc).mono fun _ _ ⟨q, c, a, b, c1, c2, c3, d, e⟩ => ⟨q, c, a, b, c1, c2, c3, d.swap, e⟩
end

end Go.Proofs.Ytbcjgkedlapmhaa.StoT
