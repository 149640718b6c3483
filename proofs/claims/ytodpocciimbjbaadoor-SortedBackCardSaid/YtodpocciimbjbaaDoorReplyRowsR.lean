/-
  append of rows of bytes to a row of rows.
-/
import Derived.Test.YtodpocciimbjbaaDoorReplyRows
namespace Go.Proofs.YtodpocciimbjbaaDoor.ReplyT
open Go.RowKit Kit BytesIn ReplyMath
set_option linter.unusedVariables false
set_option maxRecDepth 100000

/-- append of rows of bytes. -/
theorem wpList_append_r {w0 w : World} {ops : Array Oper} {rest : List Oper} {o : Oper} {a : Act} {Q : Exit → Act → World → Prop} (hgd : o.guard = none) (s x : Operand)
    (ho : o.op = .call { callee := .builtin .append, args := #[s, x], argTypes := #[67, 67] })
    (v : Value) (L : List (List UInt8)) (hs : a.eval s = v) (hown : OwnR w0.heap.size w v L) (hb : Below w0.heap.size w0 w)
    (g m c : Nat) (us : List Value) (R : List (List UInt8)) (hx : a.eval x = .slice (some ⟨g, 0, none⟩) m c) (hm : us.length = m) (hR : R.length = m) (hg : Laid w g us)
    (hus : ∀ j (h : j < R.length), ∃ u, us[j]? = some u ∧ Ok w u R[j] ∧ ∀ p n c, u = .slice (some p) n c → 0 < n → v.ownBlock ≠ some p.block) (hone : ∀ u ∈ us, u.oneCell' = true) (hsz : L.length + m ≤ 1048576) (Z : List (List UInt8)) (hZ : Z = L ++ R)
    (h : ∀ v' w', OwnR w0.heap.size w' v' Z → Below w0.heap.size w0 w' → wpList Tryd.prog ops Q rest (a.put o.dst v') w') : wpList Tryd.prog ops Q (o :: rest) a w := by
  subst hZ
  obtain ⟨i0, hi0, hz0, hz1, hzb⟩ := info_parts row_parts
  obtain ⟨vs, hvs, hat⟩ := hown
  have hvl : vs.length = L.length := by have := hvs.1; omega
  refine wpList_append_own_at w hgd s x 67 ho w0.heap.size 29 i0 (.slice none 0 0) 1 24 Tryd.underlying67 hi0 hz0 hz1 hzb rfl (by decide) v L.length vs hs hvs ⟨g, 0, none⟩ m c us hx (by omega) (fun j u hu => ?_) hone (by unfold maxLen; omega) (by omega) hb.size ?_
  · rw [Addr.add_lit, cell_of_row _ _ _ _ _ _ hg, Nat.zero_add]
    simpa using hu
  · intro v' w' h1 h2 _ h4
    refine h v' w' ⟨vs ++ us, ?_, fun j hj => ?_⟩ (hb.grown h2 hb.size (own_base hvs))
    · rw [List.length_append, hR]
      exact h1
    · have key : ∃ u, (vs ++ us)[j]? = some u ∧ Ok w u (L ++ R)[j] ∧ ∀ p n c, u = .slice (some p) n c → 0 < n → v.ownBlock ≠ some p.block := by
        by_cases hjl : j < L.length
        · obtain ⟨u, hu, hok, ha⟩ := hat j hjl
          refine ⟨u, by rw [List.getElem?_append_left (by omega)]; exact hu, ?_, ha⟩
          rw [List.getElem_append_left hjl]
          exact hok
        · have hjr : j - L.length < R.length := by rw [List.length_append] at hj; omega
          obtain ⟨u, hu, hok, ha⟩ := hus (j - L.length) hjr
          refine ⟨u, by rw [List.getElem?_append_right (by omega), hvl]; exact hu, ?_, ha⟩
          rw [List.getElem_append_right (by omega)]
          exact hok
      obtain ⟨u, hu, hok, ha⟩ := key
      refine ⟨u, hu, hok.grown h2 (fun p n c hp hn e => ha p n c hp hn (by rw [← e])), fun p n c hp hn e => ?_⟩
      rcases h4 with h4 | h4
      · exact ha p n c hp hn (by rw [← h4]; exact e)
      · rw [h4] at e
        injection e with e
        obtain ⟨q, c', hq, hB, -⟩ := hok
        rw [hp] at hq
        injection hq with e1 e2 e3
        obtain ⟨b, off, hb', hlt, -⟩ := hB (by omega)
        rw [hb'] at e1
        injection e1 with e1
        subst e1
        have e : w.heap.size = b := e
        omega

end Go.Proofs.YtodpocciimbjbaaDoor.ReplyT
