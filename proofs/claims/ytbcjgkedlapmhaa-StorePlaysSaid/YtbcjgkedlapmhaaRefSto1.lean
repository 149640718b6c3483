/-
  The document's own store (package tipstaffref10): where a key is, how often something became of it, and one more.
-/
import Derived.Test.YtbcjgkedlapmhaaStoRows
import Derived.Test.YtbcjgkedlapmhaaQuietTail
import Derived.Maps.AppendAt
import Derived.BigQuiet
import Derived.Deep.QuietTactic
import Derived.StillTailTactics
namespace Go.Proofs.Ytbcjgkedlapmhaa.RefY
open Go.RowKit Kit StrT RowG BOrd ValT StoT
open Go.Op (bytesLess)
set_option linter.unusedVariables false
set_option maxRecDepth 100000

theorem en_cells {w : World} {q : Option Addr} {L : List (En PV)} (h : Rs enE w q L) (i : Nat) (hi : i < L.length) : ∃ b off, q = some ⟨b, off, none⟩ ∧ b < w.heap.size ∧
    w.cell? ⟨b, off + i * 9, none⟩ = some (.string ⟨L[i].key.toArray⟩) ∧ w.cell? ⟨b, off + i * 9 + 1, none⟩ = some (.int .u8 L[i].v.k) ∧ w.cell? ⟨b, off + i * 9 + 2, none⟩ = some (.string L[i].v.S) ∧
    w.cell? ⟨b, off + i * 9 + 3, none⟩ = some (.slice L[i].v.ql L[i].v.nl L[i].v.cl) ∧ w.cell? ⟨b, off + i * 9 + 4, none⟩ = some (.slice L[i].v.qh L[i].v.nh L[i].v.ch) ∧ w.cell? ⟨b, off + i * 9 + 5, none⟩ = some (.slice L[i].v.qz L[i].v.nz L[i].v.cz) ∧
    w.cell? ⟨b, off + i * 9 + 6, none⟩ = some (.int .i64 L[i].due) ∧ w.cell? ⟨b, off + i * 9 + 7, none⟩ = some (.bool L[i].on) ∧ w.cell? ⟨b, off + i * 9 + 8, none⟩ = some (.bool L[i].past) := by
  obtain ⟨b, off, hp, hlt, hc⟩ := h.cells i hi
  exact ⟨b, off, hp, hlt, hc 0 (by decide), hc 1 (by decide), hc 2 (by decide), hc 3 (by decide), hc 4 (by decide), hc 5 (by decide), hc 6 (by decide), hc 7 (by decide), hc 8 (by decide)⟩
theorem cn_cells {w : World} {q : Option Addr} {L : List Cn} (h : Rs cnE w q L) (i : Nat) (hi : i < L.length) : ∃ b off, q = some ⟨b, off, none⟩ ∧ b < w.heap.size ∧
    w.cell? ⟨b, off + i * 2, none⟩ = some (.string ⟨L[i].key.toArray⟩) ∧ w.cell? ⟨b, off + i * 2 + 1, none⟩ = some (.int .i64 L[i].n) := by
  obtain ⟨b, off, hp, hlt, hc⟩ := h.cells i hi
  exact ⟨b, off, hp, hlt, hc 0 (by decide), hc 1 (by decide)⟩
section
variable {w : World} {y : Nat} {ql : Option Addr} {nl cl : Nat} {qc : Option Addr} {nc cc : Nat} {P : List (En PV)} {Q : List Cn} {t : Nat}
theorem yr_cells (h : YR w y ql nl cl qc nc cc P Q t) : w.cell? ⟨y, 0, none⟩ = some (.slice ql nl cl) ∧ w.cell? ⟨y, 1, none⟩ = some (.slice qc nc cc) ∧ w.cell? ⟨y, 2, none⟩ = some (.int .i64 t) := by
  refine ⟨?_, ?_, ?_⟩ <;> (rw [cell_of_row _ _ _ _ 30 _ h.hp]; rfl)
theorem yr_frz (h : YR w y ql nl cl qc nc cc P Q t) (j : Nat) : w.frozen? ⟨y, j, none⟩ = false := frozen_of_row _ _ _ _ 30 h.hp
end
theorem key_eq {A K : ByteArray} {x k : List UInt8} (hA : A = ⟨x.toArray⟩) (hK : K.data.toList = k) : (A.toList == K.toList) = decide (x = k) := by
  rw [hA, ByteArray.toList_eq, ByteArray.toList_eq, hK, Bool.eq_iff_iff, beq_iff_eq, decide_eq_true_eq]
theorem key_ne {A K : ByteArray} (h : (A.toList == K.toList) = false) : ¬ A = K := fun e => by rw [e, beq_self_eq_true] at h; cases h
theorem key_same {A K : ByteArray} (h : (A.toList == K.toList) = true) : A = K := by
  rw [beq_iff_eq, ByteArray.toList_eq, ByteArray.toList_eq] at h
  exact ByteArray.ext (Array.toList_inj.1 h)

/-- Where a key is. -/
def FindP (k : List UInt8) (P : List (En PV)) (r : Int) : Prop := (r = -1 ∧ ∀ e ∈ P, e.key ≠ k) ∨ ∃ i, ∃ h : i < P.length, r = (i : Int) ∧ P[i].key = k
set_option maxHeartbeats 2000000 in
theorem rfind {y : Nat} {ql : Option Addr} {nl cl : Nat} {qc : Option Addr} {nc cc : Nat} {P : List (En PV)} {Q : List Cn} {t : Nat} (K : ByteArray) (k : List UInt8) (w : World) (hK : K.data.toList = k) (H : YR w y ql nl cl qc nc cc P Q t) (hz : nl ≤ 1048576) :
    Calls Try.prog 37 #[.pointer (some ⟨y, 0, none⟩), .string K] w fun e w' => (∃ r, e = .returned (.int .i64 r) ∧ FindP k P r) ∧ w' = w := by
  have HS := Lib.hid H.rl.rs
  have HN := Lib.hid H.rl.len
  have HK := Lib.hid hK
  obtain ⟨c0, c1, c2⟩ := yr_cells H
  clear H hK
  go_enter Try.func37, Try.ntmps37
  go_wp2_with fail
  go_loopw [5] (fun i wr => ∃ j : Nat, i = .int .i64 (j : Int) ∧ j ≤ nl ∧ Hid (∀ x (h : x < P.length), x < j → P[x].key ≠ k) ∧ wr = w) (fun i _ => nl + 1 - (intOf i).toNat)
  case atStart => exact ⟨0, rfl, Nat.zero_le _, Lib.hid (fun x h hx => absurd hx (by omega)), rfl⟩
  case round =>
    obtain ⟨j, rfl, hj, HR, rfl⟩ := hrel
    by_cases hlt : j < nl
    · have d1 : decide ((j : Int) < (nl : Int)) = true := decide_eq_true (by omega)
      have hj0 : (0 : Int) ≤ (j : Int) := by omega
      have hjn : (j : Int) < (nl : Int) := by omega
      obtain ⟨b, off, rfl, hbl, u0, -⟩ := en_cells HS.out j (by rw [HN.out]; exact hlt)
      obtain ⟨A, hA⟩ : ∃ A : ByteArray, A = ⟨(P[j]'(by rw [HN.out]; exact hlt)).key.toArray⟩ := ⟨_, rfl⟩
      rw [← hA] at u0
      have he := key_eq hA HK.out
      by_cases hk : (P[j]'(by rw [HN.out]; exact hlt)).key = k
      · rw [decide_eq_true hk] at he
        have hAK := key_same he
        have HF := Lib.hid (show FindP k P (j : Int) from Or.inr ⟨j, by rw [HN.out]; exact hlt, rfl, hk⟩)
        clear hA hk hbl
        subst hAK
        go_wp2_with fail
        go_ret
        exact ⟨⟨_, rfl, HF.out⟩, rfl⟩
      · rw [decide_eq_false hk] at he
        have hAK := key_ne he
        have HG := Lib.hid (show ∀ x (h : x < P.length), x < j + 1 → P[x].key ≠ k from fun x h hx => by
          rcases Nat.lt_or_ge x j with h1 | h1
          · exact HR.out x h h1
          · obtain rfl : x = j := by omega
            exact hk)
        clear hA hk hbl
        go_wp2_with fail
        go_roundw
        case rel => exact ⟨j + 1, by go_num, by omega, HG, by first | rfl | trivial⟩
        case measure => simp [intOf]; omega
    · have d1 : decide ((j : Int) < (nl : Int)) = false := decide_eq_false (by omega)
      have HF := Lib.hid (show FindP k P (-1) from Or.inl ⟨rfl, fun e he => by
        obtain ⟨x, hx, rfl⟩ := List.getElem_of_mem he
        exact HR.out x hx (by have := HN.out; omega)⟩)
      go_wp2_with fail
      go_ret
      exact ⟨⟨_, rfl, HF.out⟩, rfl⟩

theorem cntL_at {k : List UInt8} {Q : List Cn} {i : Nat} (hi : i < Q.length) (hk : Q[i].key = k) (h : ∀ x (h : x < Q.length), x < i → Q[x].key ≠ k) : cntL Q k = Q[i].n := by
  have h1 : Q.find? (fun c => decide (c.key = k)) = some Q[i] := by
    rw [List.find?_eq_some_iff_getElem]
    refine ⟨by simp [hk], i, hi, rfl, fun j hj => ?_⟩
    simpa using h j (by omega) hj
  unfold cntL
  rw [h1]
  rfl
theorem cntL_none {k : List UInt8} {Q : List Cn} (h : ∀ x (h : x < Q.length), Q[x].key ≠ k) : cntL Q k = 0 := by
  have h1 : Q.find? (fun c => decide (c.key = k)) = none := by
    rw [List.find?_eq_none]
    intro c hc
    obtain ⟨x, hx, rfl⟩ := List.getElem_of_mem hc
    simpa using h x hx
  unfold cntL
  rw [h1]
  rfl
set_option maxHeartbeats 2000000 in
theorem rversion {y : Nat} {ql : Option Addr} {nl cl : Nat} {qc : Option Addr} {nc cc : Nat} {P : List (En PV)} {Q : List Cn} {t : Nat} (K : ByteArray) (k : List UInt8) (w : World) (hK : K.data.toList = k) (H : YR w y ql nl cl qc nc cc P Q t) (hz : nc ≤ 1048576) :
    Calls Try.prog 32 #[.pointer (some ⟨y, 0, none⟩), .string K] w fun e w' => e = .returned (.int .i64 (cntL Q k)) ∧ w' = w := by
  have HS := Lib.hid H.rc.rs
  have HN := Lib.hid H.rc.len
  have HK := Lib.hid hK
  obtain ⟨c0, c1, c2⟩ := yr_cells H
  clear H hK
  go_enter Try.func32, Try.ntmps32
  go_wp2_with fail
  go_loopw [5] (fun i wr => ∃ j : Nat, i = .int .i64 (j : Int) ∧ j ≤ nc ∧ Hid (∀ x (h : x < Q.length), x < j → Q[x].key ≠ k) ∧ wr = w) (fun i _ => nc + 1 - (intOf i).toNat)
  case atStart => exact ⟨0, rfl, Nat.zero_le _, Lib.hid (fun x h hx => absurd hx (by omega)), rfl⟩
  case round =>
    obtain ⟨j, rfl, hj, HR, rfl⟩ := hrel
    by_cases hlt : j < nc
    · have d1 : decide ((j : Int) < (nc : Int)) = true := decide_eq_true (by omega)
      have hj0 : (0 : Int) ≤ (j : Int) := by omega
      have hjn : (j : Int) < (nc : Int) := by omega
      obtain ⟨b, off, rfl, hbl, u0, u1⟩ := cn_cells HS.out j (by rw [HN.out]; exact hlt)
      obtain ⟨A, hA⟩ : ∃ A : ByteArray, A = ⟨(Q[j]'(by rw [HN.out]; exact hlt)).key.toArray⟩ := ⟨_, rfl⟩
      rw [← hA] at u0
      have he := key_eq hA HK.out
      by_cases hk : (Q[j]'(by rw [HN.out]; exact hlt)).key = k
      · rw [decide_eq_true hk] at he
        have hAK := key_same he
        have HF := Lib.hid (cntL_at (by rw [HN.out]; exact hlt) hk (fun x h hx => HR.out x h hx))
        generalize (Q[j]'(by rw [HN.out]; exact hlt)).n = N at u1 HF
        clear hA hk hbl
        subst hAK
        go_wp2_with fail
        go_ret
        exact ⟨ret_int (by rw [HF.out]), rfl⟩
      · rw [decide_eq_false hk] at he
        have hAK := key_ne he
        have HG := Lib.hid (show ∀ x (h : x < Q.length), x < j + 1 → Q[x].key ≠ k from fun x h hx => by
          rcases Nat.lt_or_ge x j with h1 | h1
          · exact HR.out x h h1
          · obtain rfl : x = j := by omega
            exact hk)
        clear hA hk hbl u1
        go_wp2_with fail
        go_roundw
        case rel => exact ⟨j + 1, by go_num, by omega, HG, by first | rfl | trivial⟩
        case measure => simp [intOf]; omega
    · have d1 : decide ((j : Int) < (nc : Int)) = false := decide_eq_false (by omega)
      have HF := Lib.hid (cntL_none (Q := Q) (k := k) (fun x h => HR.out x h (by have := HN.out; omega)))
      go_wp2_with fail
      go_ret
      exact ⟨ret_int (by rw [HF.out]; rfl), rfl⟩

/-- An append of one record to a row of a store's own: where it lies then. -/
theorem wpList_append_y {α : Type} (E : Enc α) {w : World} {ops : Array Oper} {rest : List Oper} {o : Oper} {a : Act} {Qk : Exit → Act → World → Prop} (hgd : o.guard = none) (s x : Operand)
    (ho : o.op = .call { callee := .builtin .append, args := #[s, x], argTypes := #[E.slt, E.slt] })
    (q : Option Addr) (n c : Nat) (L : List α) (hs : a.eval s = .slice q n c) (hy : RowY E w q n c L)
    (g : Nat) (u : α) (c' : Nat) (hx : a.eval x = .slice (some ⟨g, 0, none⟩) 1 c') (hg : ∀ j, j < E.sz → w.cell? ⟨g, j, none⟩ = (E.enc u)[j]?) (hsz : n ≤ 1048576)
    (h : ∀ q' c'' w', Hid (RowY E w' q' (n + 1) c'' (L ++ [u])) → Hid (w.grownBy w' (q.map (·.block))) → Hid (∀ a, q' = some a → (∃ b, q = some b ∧ a.block = b.block) ∨ a.block = w.heap.size) → wpList Try.prog ops Qk rest (a.put o.dst (.slice q' (n + 1) c'')) w') : wpList Try.prog ops Qk (o :: rest) a w := by
  obtain ⟨i0, hi0, hz0, hz1, hzb⟩ := info_parts E.info
  have hn := hy.len
  have hown := hy.own 0 (fun _ _ => Nat.zero_le _)
  unfold OwnR at hown
  rw [hn] at hown
  have hob : (Value.slice q n c).ownBlock = q.map (·.block) := by cases q <;> rfl
  refine wpList_append_own_at w hgd s x E.slt ho 0 E.ty i0 E.zero E.sz E.bytes E.und hi0 hz0 hz1 hzb E.zlen E.pos (.slice q n c) n (flat E L) hs hown ⟨g, 0, none⟩ 1 c' (E.enc u) hx (by rw [E.len, Nat.one_mul]) (fun j z hz => ?_) (E.one u) (by unfold maxLen; omega) ?_ (Nat.zero_le _) ?_
  · have hj : j < E.sz := by rw [← E.len u]; exact (List.getElem?_eq_some_iff.1 hz).1
    rw [Addr.add_lit]
    first
      | rw [hg j hj]; exact hz
      | rw [Nat.zero_add, hg j hj]; exact hz
  · have := E.by64
    have h1 : (n + 1) * E.bytes ≤ 1048577 * 256 := Nat.mul_le_mul (by omega) this
    omega
  · intro v' w' h1 h2 _ h4
    have h5 : OwnR E 0 w' v' (L ++ [u]) := by
      unfold OwnR
      rw [List.length_append, flat_app, flat_one1, hn]
      exact h1
    obtain ⟨q', c'', e, h6, -⟩ := rowY_of h5
    rw [List.length_append, hn] at e h6
    subst e
    refine h q' c'' w' h6 (by rw [← hob]; exact h2) (fun ad ha => ?_)
    subst ha
    rw [hob] at h4
    rcases h4 with h4 | h4
    · left
      cases q with
      | none => cases h4
      | some b => exact ⟨b, rfl, by simpa [Value.ownBlock] using h4⟩
    · right
      simpa [Value.ownBlock] using h4

end Go.Proofs.Ytbcjgkedlapmhaa.RefY
