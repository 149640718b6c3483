/-
  For the laws of layer 6 that hold a reader: a call that turns the reader's own blocks alone; rows of texts, and rows of these, that lie off them.
-/
import Derived.Test.YtadffjmpkeaikaaDoorFrameT
import Derived.Maps.AppendAt
namespace Go.Proofs.YtadffjmpkeaikaaDoor.FrameT
open Go.RowKit Kit BytesIn ReplyMath ReplyT FrameMath
set_option linter.unusedVariables false
set_option maxRecDepth 100000

/-- What a call has turned: blocks of F alone; what is of F' now was of F, or is new. -/
structure Turn (F : Nat → Prop) (w w' : World) (F' : Nat → Prop) : Prop where
  os : w'.os = w.os
  tape : w'.tape = w.tape
  output : w'.output = w.output
  size : w.heap.size ≤ w'.heap.size
  block : ∀ k, k < w.heap.size → ¬ F k → w'.heap[k]? = w.heap[k]?
  foot : ∀ k, F' k → F k ∨ w.heap.size ≤ k
theorem Turn.of_below {F : Nat → Prop} {w w' : World} (h : Below w.heap.size w w') : Turn F w w' F := ⟨h.os, h.tape, h.output, h.size, fun k hk _ => h.block k hk, fun k hk => Or.inl hk⟩
theorem Turn.trans {F F' F'' : Nat → Prop} {w w' w'' : World} (h : Turn F w w' F') (h' : Turn F' w' w'' F'') : Turn F w w'' F'' :=
  ⟨h'.os.trans h.os, h'.tape.trans h.tape, h'.output.trans h.output, Nat.le_trans h.size h'.size, fun k hk hf =>
    (h'.block k (Nat.lt_of_lt_of_le hk h.size) (fun hf' => by rcases h.foot k hf' with h1 | h1; exact hf h1; omega)).trans (h.block k hk hf),
   fun k hk => by
    rcases h'.foot k hk with h1 | h1
    · exact h.foot k h1
    · exact Or.inr (Nat.le_trans h.size h1)⟩
theorem Turn.below {F F' : Nat → Prop} {w w' : World} {B : Nat} (h : Turn F w w' F') (hF : ∀ k, F k → B ≤ k) (hB : B ≤ w.heap.size) : Below B w w' :=
  ⟨h.os, h.tape, h.output, h.size, fun k hk => h.block k (by omega) (fun hf => by have := hF k hf; omega)⟩
theorem Turn.ge {F F' : Nat → Prop} {w w' : World} {B : Nat} (h : Turn F w w' F') (hF : ∀ k, F k → B ≤ k) (hB : B ≤ w.heap.size) : ∀ k, F' k → B ≤ k := fun k hk => by
  rcases h.foot k hk with h1 | h1
  · exact hF k h1
  · omega
theorem Turn.off {F F' : Nat → Prop} {w w' : World} {k : Nat} (h : Turn F w w' F') (hk : k < w.heap.size) (hf : ¬ F k) : ¬ F' k := fun h' => by
  rcases h.foot k h' with h1 | h1
  · exact hf h1
  · omega
theorem Turn.cell {F F' : Nat → Prop} {w w' : World} {a : Addr} (h : Turn F w w' F') (hk : a.block < w.heap.size) (hf : ¬ F a.block) : w'.cell? a = w.cell? a := World.cell?_of_block (h.block a.block hk hf)

/-- A row of texts that lies off the reader's blocks. -/
def SsOff (F : Nat → Prop) (w : World) (q : Option Addr) (L : List (List UInt8)) : Prop := Ss w q L ∧ ∀ a, q = some a → 0 < L.length → ¬ F a.block
theorem SsOff.turn {F F' : Nat → Prop} {w w' : World} {q : Option Addr} {L : List (List UInt8)} (h : SsOff F w q L) (ht : Turn F w w' F') : SsOff F' w' q L := by
  refine ⟨fun h0 => ?_, fun a ha h0 => ?_⟩
  · obtain ⟨b, off, hp, hlt, hc⟩ := h.1 h0
    have hf := h.2 _ hp h0
    exact ⟨b, off, hp, Nat.lt_of_lt_of_le hlt ht.size, fun j hj => by rw [ht.cell (a := ⟨b, off + j, none⟩) hlt hf]; exact hc j hj⟩
  · obtain ⟨b, off, hp, hlt, hc⟩ := h.1 h0
    have hf := h.2 a ha h0
    rw [ha] at hp
    injection hp with hp
    subst hp
    exact ht.off hlt hf
theorem SsOff.keep {F : Nat → Prop} {w w' : World} {q : Option Addr} {L : List (List UInt8)} (h : SsOff F w q L) (hb : Below w.heap.size w w') : SsOff F w' q L := h.turn (Turn.of_below hb)
/-- A slice value that is such a row. -/
def OkS (F : Nat → Prop) (w : World) (u : Value) (l : List (List UInt8)) : Prop := ∃ q c, u = .slice q l.length c ∧ SsOff F w q l ∧ l.length ≤ c ∧ c ≤ 9223372036854775807 ∧ (q = none → c = 0)
theorem OkS.turn {F F' : Nat → Prop} {w w' : World} {u : Value} {l : List (List UInt8)} (h : OkS F w u l) (ht : Turn F w w' F') : OkS F' w' u l := by
  obtain ⟨q, c, hv, hS, h1⟩ := h
  exact ⟨q, c, hv, hS.turn ht, h1⟩
theorem OkS.one {F : Nat → Prop} {w : World} {u : Value} {l : List (List UInt8)} (h : OkS F w u l) : u.oneCell' = true := by
  obtain ⟨q, c, rfl, -⟩ := h
  rfl
/-- What was answered in new memory lies off blocks that were there. -/
theorem AnsS.off {F : Nat → Prop} {base : Nat} {w : World} {v : Value} {L : List (List UInt8)} (h : AnsS base w v L) (hF : ∀ k, F k → k < base) : OkS F w v L := by
  obtain ⟨q, c, hv, hS, hq, h1⟩ := h
  exact ⟨q, c, hv, ⟨hS, fun a ha _ hf => by have := hF _ hf; have := hq a ha; omega⟩, h1⟩

theorem srow_parts : (Tryd.prog.info? 23).map (fun i => (i.zero, i.size, i.bytes)) = some (some (.slice none 0 0), 1, 24) := by kernel_rfl
/-- A row of rows of texts of the call's own, off the reader's blocks. -/
def OwnT (F : Nat → Prop) (base : Nat) (w : World) (v : Value) (L : List (List (List UInt8))) : Prop :=
  (∀ g, v.ownBlock = some g → ¬ F g) ∧ ∃ vs : List Value, w.ownsRow base 23 1 v L.length vs ∧ ∀ j (h : j < L.length), ∃ u, vs[j]? = some u ∧ OkS F w u L[j] ∧ ∀ p n c, u = .slice (some p) n c → 0 < n → v.ownBlock ≠ some p.block
theorem OwnT.new {F : Nat → Prop} {base : Nat} {w : World} (hb : base ≤ w.heap.size) (hF : ∀ k, F k → k < w.heap.size) : OwnT F base (w.alloc (.cells #[] 23)) (.slice (some ⟨w.heap.size, 0, none⟩) 0 0) [] :=
  ⟨fun g hg hf => by
    have h1 : w.heap.size = g := by simpa [Value.ownBlock] using hg
    have := hF g hf
    omega, [], World.ownsRow_lit w #[] 0 hb (by simp [maxLen]) rfl, fun j hj => absurd hj (by simp)⟩
theorem OwnT.turn {F F' : Nat → Prop} {base : Nat} {w w' : World} {v : Value} {L : List (List (List UInt8))} (h : OwnT F base w v L) (ht : Turn F w w' F') : OwnT F' base w' v L := by
  obtain ⟨hg, vs, h, hvs⟩ := h
  refine ⟨fun g hgv => ht.off (h.lt g hgv).2 (hg g hgv), vs, ⟨h.1, ?_⟩, fun j hj => ?_⟩
  · rcases h.2 with ⟨e, h0⟩ | ⟨g, cap, cur, e, hgb, hh, h1, h2, h3, h4⟩
    · exact Or.inl ⟨e, h0⟩
    · have hlt : g < w.heap.size := by
        rcases Nat.lt_or_ge g w.heap.size with h' | h'
        · exact h'
        · rw [Array.getElem?_eq_none h'] at hh; cases hh
      exact Or.inr ⟨g, cap, cur, e, hgb, by rw [ht.block g hlt (hg g (by rw [e]; rfl))]; exact hh, h1, h2, h3, h4⟩
  · obtain ⟨u, hu, hok, ha⟩ := hvs j hj
    exact ⟨u, hu, hok.turn ht, ha⟩
theorem OwnT.keep {F : Nat → Prop} {base : Nat} {w w' : World} {v : Value} {L : List (List (List UInt8))} (h : OwnT F base w v L) (hb : Below w.heap.size w w') : OwnT F base w' v L := h.turn (Turn.of_below hb)
theorem OwnT.form {F : Nat → Prop} {base : Nat} {w : World} {v : Value} {L : List (List (List UInt8))} (h : OwnT F base w v L) : ∃ q c, v = .slice q L.length c := by
  obtain ⟨-, vs, h, -⟩ := h
  rcases h.2 with ⟨rfl, h0⟩ | ⟨g, cap, cur, rfl, -⟩
  · exact ⟨none, 0, by rw [h0]⟩
  · exact ⟨_, cap, rfl⟩
/-- A row of rows of texts, to be read. -/
def Ts (F : Nat → Prop) (w : World) (q : Option Addr) (L : List (List (List UInt8))) : Prop :=
  0 < L.length → ∃ b off, q = some ⟨b, off, none⟩ ∧ b < w.heap.size ∧ ¬ F b ∧ ∀ j (h : j < L.length), ∃ u, w.cell? ⟨b, off + j, none⟩ = some u ∧ OkS F w u L[j]
theorem OwnT.ts {F : Nat → Prop} {base : Nat} {w : World} {v : Value} {L : List (List (List UInt8))} (h : OwnT F base w v L) : ∃ q c, v = .slice q L.length c ∧ Ts F w q L ∧ L.length ≤ c ∧ c ≤ 9223372036854775807 ∧ (q = none → c = 0) := by
  obtain ⟨hg, vs, h, hvs⟩ := h
  rcases h.2 with ⟨rfl, h0⟩ | ⟨g, cap, cur, rfl, hgb, hh, hc, hm, hsz, htake⟩
  · obtain rfl : L = [] := List.eq_nil_of_length_eq_zero h0
    exact ⟨none, 0, rfl, fun h => absurd h (by simp), by simp, by omega, fun _ => rfl⟩
  · unfold maxLen at hm
    refine ⟨_, cap, rfl, fun h0 => ⟨g, 0, rfl, ?_, hg g rfl, fun j hj => ?_⟩, hc, by omega, fun h => by cases h⟩
    · rcases Nat.lt_or_ge g w.heap.size with h' | h'
      · exact h'
      · rw [Array.getElem?_eq_none h'] at hh; cases hh
    · obtain ⟨u, hu, hok, -⟩ := hvs j hj
      exact ⟨u, by rw [Nat.zero_add, World.ownsRow.cellAt h j (by omega)]; exact hu, hok⟩
theorem OkS.grown {F : Nat → Prop} {w w' : World} {u : Value} {l : List (List UInt8)} {row : Option Nat} (h : OkS F w u l) (hg : w.grownBy w' row) (ha : ∀ p n c, u = .slice (some p) n c → 0 < n → row ≠ some p.block) : OkS F w' u l := by
  obtain ⟨p, c, hv, hB, h1⟩ := h
  refine ⟨p, c, hv, ⟨fun h0 => ?_, hB.2⟩, h1⟩
  obtain ⟨b, off, hp, hlt, hc⟩ := hB.1 h0
  subst hp
  have hne : some b ≠ row := fun e => ha ⟨b, off, none⟩ l.length c hv h0 e.symm
  refine ⟨b, off, rfl, Nat.lt_of_lt_of_le hlt hg.size, fun j hj => ?_⟩
  rw [World.cell?_of_block (a := ⟨b, off + j, none⟩) (hg.block b hlt hne)]
  exact hc j hj
/-- append of rows of texts to such a row: the reader's blocks stay as they are. -/
theorem wpList_append_t {F0 F : Nat → Prop} {w0 w : World} {ops : Array Oper} {rest : List Oper} {o : Oper} {a : Act} {Q : Exit → Act → World → Prop} (hgd : o.guard = none) (s x : Operand)
    (ho : o.op = .call { callee := .builtin .append, args := #[s, x], argTypes := #[38, 38] })
    (v : Value) (L : List (List (List UInt8))) (hs : a.eval s = v) (hown : OwnT F w0.heap.size w v L) (hb : Turn F0 w0 w F) (hF : ∀ k, F k → k < w.heap.size)
    (ad : Addr) (m c : Nat) (us : List Value) (R : List (List (List UInt8))) (hx : a.eval x = .slice (some ad) m c) (hm : us.length = m) (hR : R.length = m) (hg : ∀ j u, us[j]? = some u → w.cell? (ad.add j) = some u)
    (hus : ∀ j (h : j < R.length), ∃ u, us[j]? = some u ∧ OkS F w u R[j] ∧ ∀ p n c, u = .slice (some p) n c → 0 < n → v.ownBlock ≠ some p.block) (hone : ∀ u ∈ us, u.oneCell' = true) (hsz : L.length + m ≤ 1048576) (Z : List (List (List UInt8))) (hZ : Z = L ++ R)
    (h : ∀ v' w', OwnT F w0.heap.size w' v' Z → Turn F0 w0 w' F → (∀ k, F k → w'.heap[k]? = w.heap[k]?) → w.heap.size ≤ w'.heap.size → wpList Tryd.prog ops Q rest (a.put o.dst v') w') : wpList Tryd.prog ops Q (o :: rest) a w := by
  subst hZ
  obtain ⟨i0, hi0, hz0, hz1, hzb⟩ := info_parts srow_parts
  obtain ⟨hoff, vs, hvs, hat⟩ := hown
  have hvl : vs.length = L.length := by have := hvs.1; omega
  refine wpList_append_own_at w hgd s x 38 ho w0.heap.size 23 i0 (.slice none 0 0) 1 24 Tryd.underlying38 hi0 hz0 hz1 hzb rfl (by decide) v L.length vs hs hvs ad m c us hx (by omega) hg hone (by unfold maxLen; omega) (by omega) hb.size ?_
  intro v' w' h1 h2 _ h4
  refine h v' w' ⟨fun g hgv hf => ?_, vs ++ us, ?_, fun j hj => ?_⟩ ⟨h2.os.trans hb.os, h2.tape.trans hb.tape, h2.output.trans hb.output, Nat.le_trans hb.size h2.size, fun k hk hf => (h2.block k (Nat.lt_of_lt_of_le hk hb.size) (fun e => by have := own_base hvs k e.symm; omega)).trans (hb.block k hk hf), hb.foot⟩ (fun k hk => h2.block k (hF k hk) (fun e => hoff k e.symm hk)) h2.size
  · rcases h4 with h4 | h4
    · exact hoff g (by rw [← h4]; exact hgv) hf
    · rw [h4] at hgv
      injection hgv with hgv
      have := hF g hf
      omega
  · rw [List.length_append, hR]
    exact h1
  · have key : ∃ u, (vs ++ us)[j]? = some u ∧ OkS F w u (L ++ R)[j] ∧ ∀ p n c, u = .slice (some p) n c → 0 < n → v.ownBlock ≠ some p.block := by
      by_cases hjl : j < L.length
      · obtain ⟨u, hu, hok, ha⟩ := hat j hjl
        refine ⟨u, by rw [List.getElem?_append_left (by omega)]; exact hu, ?_, ha⟩
        rw [List.getElem_append_left hjl]
        exact hok
      · have hjr : j - L.length < R.length := by rw [List.length_append] at hj; omega
        obtain ⟨u, hu, hok, ha⟩ := hus (j - L.length) hjr
        refine ⟨u, by rw [List.getElem?_append_right (by omega), hvl]; exact hu, ?_, ha⟩
        rw [List.getElem_append_right (by omega)]
        exact hok
    obtain ⟨u, hu, hok, ha⟩ := key
    refine ⟨u, hu, hok.grown h2 (fun p n c hp hn e => ha p n c hp hn (by rw [← e])), fun p n c hp hn e => ?_⟩
    rcases h4 with h4 | h4
    · exact ha p n c hp hn (by rw [← h4]; exact e)
    · rw [h4] at e
      injection e with e
      obtain ⟨q, c', hq, hB, -⟩ := hok
      rw [hp] at hq
      injection hq with e1 e2 e3
      obtain ⟨b, off, hb', hlt, -⟩ := hB.1 (by omega)
      rw [hb'] at e1
      injection e1 with e1
      subst e1
      have e : w.heap.size = b := e
      omega

end Go.Proofs.YtadffjmpkeaikaaDoor.FrameT
