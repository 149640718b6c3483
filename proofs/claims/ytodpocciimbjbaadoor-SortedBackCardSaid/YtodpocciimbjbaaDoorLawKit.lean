/-
  What the laws of the layers of values share: rows of texts handed about, values in blocks, numbers in bounds.
-/
import Derived.Test.YtodpocciimbjbaaDoorDoRows
import Derived.Test.YtodpocciimbjbaaDoorStrRowz
import Derived.Test.YtodpocciimbjbaaDoorNumText
import Derived.Test.YtodpocciimbjbaaDoorRefTabs
namespace Go.Proofs.YtodpocciimbjbaaDoor.LawK
open Go.RowKit Kit StrT RowG BOrd ValT StoT ReplyT ReplyMath ValM BytesIn DoT NumL NumMath DoV
set_option linter.unusedVariables false
set_option maxRecDepth 100000

theorem ownR_ss {base : Nat} {w : World} {v : Value} {L : List (List UInt8)} (h : OwnR strE base w v L) : ∃ q c, v = .slice q L.length c ∧ L.length ≤ c ∧ c ≤ 9223372036854775807 ∧ (q = none → c = 0) ∧ StrT.Ss w q L ∧ (∀ a, q = some a → base ≤ a.block) := by
  obtain ⟨q, c, e, h1, h2, h3, h4, h5⟩ := OwnR.ans h
  exact ⟨q, c, e, h3, h4, h5, rs_ss.1 h1, h2⟩
theorem str_ex (l : List UInt8) : ∃ S : ByteArray, S.data.toList = l := ⟨⟨l.toArray⟩, rfl⟩
theorem wd_at {L : List (List UInt8)} {j : Nat} (h : j < L.length) : wd L j = L[j] := by
  unfold wd
  rw [List.getD_eq_getElem?_getD, List.getElem?_eq_getElem h]
  rfl
theorem ss_at {w : World} {q : Option Addr} {L : List (List UInt8)} (h : StrT.Ss w q L) (j : Nat) (hj : j < L.length) : ∃ b off S, q = some ⟨b, off, none⟩ ∧ b < w.heap.size ∧ w.cell? ⟨b, off + j, none⟩ = some (.string S) ∧ S.data.toList = wd L j := by
  obtain ⟨b, off, e, hlt, hc⟩ := h (by omega)
  exact ⟨b, off, ⟨L[j].toArray⟩, e, hlt, hc j hj, by rw [wd_at hj]⟩
theorem ss_word {w : World} {q : Option Addr} {L : List (List UInt8)} (h : StrT.Ss w q L) (j : Nat) (hj : j < L.length) : ∃ b off, q = some ⟨b, off, none⟩ ∧ b < w.heap.size ∧ w.cell? ⟨b, off + j, none⟩ = some (.string ⟨(wd L j).toArray⟩) := by
  obtain ⟨b, off, e, hlt, hc⟩ := h (by omega)
  exact ⟨b, off, e, hlt, by rw [hc j hj, wd_at hj]⟩
theorem ss3_at (w : World) (g : Nat) (hg : g = w.heap.size) (a b c : ByteArray) : StrT.Ss (w.alloc (.cells #[.string a, .string b, .string c] 9)) (some ⟨g, 0, none⟩) [a.data.toList, b.data.toList, c.data.toList] := by
  subst hg
  exact ss3_new w a b c
theorem kind_of {w : World} {p : PV} {d : V} (h : p.In w) (hd : p.d = d) : p.k = (d.kind : Int) := by
  rw [← hd]
  exact VIn.ek h
theorem ss1_new (w : World) (a : ByteArray) : StrT.Ss (w.alloc (.cells #[.string a] 9)) (some ⟨w.heap.size, 0, none⟩) [a.data.toList] := by
  intro _
  refine ⟨w.heap.size, 0, rfl, by simp, fun j hj => ?_⟩
  match j, hj with
  | 0, _ => simp [World.cell?_alloc_mark]
  | j + 1, hj => exact absurd (show j + 1 < 1 from hj) (by omega)
theorem pB_itoa {n : Int} (h0 : -9223372036854775808 ≤ n) (h1 : n ≤ 9223372036854775807) : pB (Lib.itoa n) = true ∧ pV (Lib.itoa n) = n := by
  unfold pB pV
  rw [parse_itoa n h0 h1]
  exact ⟨rfl, rfl⟩
theorem cutN {T V : ByteArray} {n : Nat} (h : V = if T.size ≤ n then T else T.extract 0 n) : V.size ≤ n := by
  subst h
  split
  · assumption
  · rw [ByteArray.size_extract]; omega
theorem num_in {z : Int} (h : -4096 ≤ z ∧ z ≤ 4096) : IntKind.i64.wrap z = z ∧ wrap64 z = z := by
  refine ⟨IntWalk.i64_in _ (by omega), ?_⟩
  unfold wrap64
  omega
/-- A row of texts in memory. -/
structure SR (w : World) (q : Option Addr) (n c : Nat) (L : List (List UInt8)) : Prop where
  ln : L.length = n
  nc : n ≤ c
  cm : c ≤ 9223372036854775807
  nl : q = none → c = 0
  ss : StrT.Ss w q L
theorem SR.keep {w w' : World} {q : Option Addr} {n c : Nat} {L : List (List UInt8)} (h : SR w q n c L) (hb : Below w.heap.size w w') : SR w' q n c L := ⟨h.ln, h.nc, h.cm, h.nl, h.ss.keep hb⟩
theorem SR.of {base : Nat} {w : World} {v : Value} {L : List (List UInt8)} (h : OwnR strE base w v L) : ∃ q c, v = .slice q L.length c ∧ SR w q L.length c L := by
  obtain ⟨q, c, e, h1, h2, h3, h4, -⟩ := ownR_ss h
  exact ⟨q, c, e, rfl, h1, h2, h3, h4⟩
theorem SR.at_ {w : World} {q : Option Addr} {n c : Nat} {L : List (List UInt8)} (h : SR w q n c L) (j : Nat) (hj : j < n) (S : ByteArray) (hS : S.data.toList = wd L j) : ∃ b off, q = some ⟨b, off, none⟩ ∧ b < w.heap.size ∧ ∀ W, Below w.heap.size w W → W.cell? ⟨b, off + j, none⟩ = some (.string S) := by
  obtain ⟨b, off, S', e, hlt, hc, hS'⟩ := ss_at h.ss j (by rw [h.ln]; exact hj)
  obtain rfl : S' = S := same_bytes (hS'.trans hS.symm)
  exact ⟨b, off, e, hlt, fun W hW => (hW.cell (p := ⟨b, off + j, none⟩) hlt).trans hc⟩
theorem VB.five {w : World} {g : Nat} {p q : PV} (h : VB w g p) (hq : q.In w) (hne : ∀ j, q.at_ j → j ≠ g) : VB (five w g (.int .u8 q.k) (.string q.S) (.slice q.ql q.nl q.cl) (.slice q.qh q.nh q.ch) (.slice q.qz q.nz q.cz)) g q :=
  ⟨val_five h.hp _ _ _ _ _, hq.same (by simp [ValM.five]) (fun k hk => five_other _ _ _ _ _ _ _ _ (hne k hk))⟩
/-- The words of a request, and a row behind them. -/
theorem lit2 (w : World) (a b : ByteArray) : OwnR strE w.heap.size (w.alloc (.cells #[.string a, .string b] 9)) (.slice (some ⟨w.heap.size, 0, none⟩) 2 2) [a.data.toList, b.data.toList] :=
  ownR_lit strE w.heap.size w _ [a.data.toList, b.data.toList] _ w.heap.size 2 rfl rfl rfl rfl (Nat.le_refl _) (by decide)
theorem sl_take (q : Option Addr) (n c m : Nat) (h : m ≤ c) (W : World) : (Instr.slice 22 (.slice q n c) none (some (.int .i64 (m : Int))) none).run Tryd.prog W = .ok (.slice q m c) W := by
  have := StrT.sl_hs q n c m h W
  rw [StrT.partAt_nought] at this
  exact this
theorem ix_at (b off n c j : Nat) (i : Int) (hi : i = (j : Int)) (hj : j < n) (W : World) : (Instr.indexAt 22 (.slice (some ⟨b, off, none⟩) n c) (.int .i64 i)).run Tryd.prog W = .ok (.pointer (some ⟨b, off + j, none⟩)) W := by
  subst hi
  have h0 : (0 : Int) ≤ (j : Int) := by omega
  have h1 : (j : Int) < (n : Int) := by omega
  go_simp


end Go.Proofs.YtodpocciimbjbaaDoor.LawK
