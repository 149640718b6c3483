/-
  The document's own store: one more of a count; an entry let go of.
-/
import Derived.Test.YtbcjgkedlapmhaaRefSto1
import Derived.Deep.RegionLaw
namespace Go.Proofs.Ytbcjgkedlapmhaa.RefY
open Go.RowKit Kit StrT RowG BOrd ValT StoT
open Go.Op (bytesLess)
set_option linter.unusedVariables false
set_option maxRecDepth 100000

/-- What was done to a store's own memory. -/
structure YStep (w : World) (y : Nat) (ql qc : Option Addr) (w' : World) (ql' qc' : Option Addr) : Prop where
  off : Off (FY y ql qc) w w'
  gr : Gr w (FY y ql qc) (FY y ql' qc')
theorem YStep.after {w w1 w' : World} {y : Nat} {ql qc ql' qc' : Option Addr} (h : YStep w1 y ql qc w' ql' qc') (hb : Below w.heap.size w w1) : YStep w y ql qc w' ql' qc' :=
  ⟨(Off.of_below hb).trans h.off (Gr.refl _ _), fun k hk => by
    rcases h.gr k hk with h1 | h1
    · exact Or.inl h1
    · exact Or.inr (Nat.le_trans hb.size h1)⟩
theorem YStep.trans {w w1 w' : World} {y : Nat} {ql qc ql1 qc1 ql' qc' : Option Addr} (h : YStep w y ql qc w1 ql1 qc1) (h' : YStep w1 y ql1 qc1 w' ql' qc') : YStep w y ql qc w' ql' qc' :=
  ⟨h.off.trans h'.off h.gr, h.gr.trans h'.gr h.off.size⟩
theorem YStep.refl (w : World) (y : Nat) (ql qc : Option Addr) : YStep w y ql qc w ql qc := ⟨Off.refl _ _, Gr.refl _ _⟩
theorem cnt_set {k : List UInt8} {Q : List Cn} {i : Nat} (hi : i < Q.length) (hk : Q[i].key = k) (h : ∀ x (h : x < Q.length), x < i → Q[x].key ≠ k) : ∀ x, cntL (Q.set i ⟨k, Q[i].n + 1⟩) x = cnt k (cntL Q) x := by
  intro x
  have h1 : Q = Q.take i ++ Q[i] :: Q.drop (i + 1) := by rw [List.getElem_cons_drop, List.take_append_drop]
  have h2 : Q.set i ⟨k, Q[i].n + 1⟩ = Q.take i ++ ⟨k, Q[i].n + 1⟩ :: Q.drop (i + 1) := by rw [List.set_eq_take_append_cons_drop, if_pos hi]
  have h3 : ∀ c ∈ Q.take i, c.key ≠ k := fun c hc => by
    obtain ⟨j, hj, rfl⟩ := List.getElem_of_mem hc
    rw [List.length_take] at hj
    rw [List.getElem_take]
    exact h j (by omega) (by omega)
  rw [h2]
  unfold cnt
  generalize Q[i] = u at hk h1 ⊢
  generalize Q.take i = A at h1 h3 ⊢
  generalize Q.drop (i + 1) = B at h1 ⊢
  rw [h1]
  unfold cntL
  rw [List.find?_append, List.find?_append, List.find?_cons, List.find?_cons]
  by_cases hx : x = k
  · subst hx
    have h4 : A.find? (fun c => decide (c.key = x)) = none := by
      rw [List.find?_eq_none]
      intro c hc
      simpa using h3 c hc
    rw [h4, if_pos rfl]
    simp [hk]
  · rw [if_neg hx]
    have e1 : decide (k = x) = false := decide_eq_false (fun h => hx h.symm)
    have e2 : decide (u.key = x) = false := by rw [hk]; exact e1
    simp only [e1, e2]
theorem cnt_app {k : List UInt8} {Q : List Cn} (h : ∀ x (h : x < Q.length), Q[x].key ≠ k) : ∀ x, cntL (Q ++ [⟨k, 1⟩]) x = cnt k (cntL Q) x := by
  intro x
  have h4 : Q.find? (fun c => decide (c.key = k)) = none := by
    rw [List.find?_eq_none]
    intro c hc
    obtain ⟨j, hj, rfl⟩ := List.getElem_of_mem hc
    simpa using h j hj
  unfold cnt cntL
  rw [List.find?_append]
  by_cases hx : x = k
  · subst hx
    rw [h4, if_pos rfl]
    simp
  · rw [if_neg hx]
    have e1 : decide (k = x) = false := decide_eq_false (fun h => hx h.symm)
    simp [e1]
def LenP (Q Q' : List Cn) (k : List UInt8) : Prop := Q'.length ≤ Q.length + 1 ∧ (0 < cntL Q k → Q'.length = Q.length) ∧ ∀ M, (∀ x ∈ Q, x.n ≤ M) → ∀ x ∈ Q', x.n ≤ M + 1
theorem lenP_refl (Q : List Cn) (k : List UInt8) : LenP Q Q k := ⟨Nat.le_succ _, fun _ => rfl, fun M h x hx => Nat.le_succ_of_le (h x hx)⟩
theorem lenP_set {Q : List Cn} {j : Nat} (hj : j < Q.length) (a k : List UInt8) : LenP Q (Q.set j ⟨a, Q[j].n + 1⟩) k := by
  refine ⟨by rw [List.length_set]; exact Nat.le_succ _, fun _ => List.length_set .., fun M h x hx => ?_⟩
  rcases List.mem_or_eq_of_mem_set hx with h1 | rfl
  · exact Nat.le_succ_of_le (h x h1)
  · exact Nat.succ_le_succ (h _ (List.getElem_mem hj))
theorem lenP_app {Q : List Cn} {k : List UInt8} (h0 : cntL Q k = 0) : LenP Q (Q ++ [⟨k, 1⟩]) k := by
  refine ⟨by rw [List.length_append]; exact Nat.le_refl _, fun h => absurd h (by rw [h0]; exact Nat.lt_irrefl _), fun M h x hx => ?_⟩
  rcases List.mem_append.1 hx with h1 | h1
  · exact Nat.le_succ_of_le (h x h1)
  · rw [List.mem_singleton.1 h1]
    exact Nat.succ_le_succ (Nat.zero_le _)
section
variable {w : World} {y : Nat} {ql : Option Addr} {nl cl : Nat} {qc : Option Addr} {nc cc : Nat} {P : List (En PV)} {Q : List Cn} {t : Nat}
/-- One number of a count changed. -/
theorem yr_count {g : Nat} (H : YR w y ql nl cl (some ⟨g, 0, none⟩) nc cc P Q t) (i : Nat) (hi : i < Q.length) (m : Nat) (o : Nat) (ho : o = i * 2 + 1) : YR (w.setCell ⟨g, o, none⟩ (.int .i64 m)) y ql nl cl (some ⟨g, 0, none⟩) nc cc P (Q.set i ⟨Q[i].key, m⟩) t ∧ YStep w y ql (some ⟨g, 0, none⟩) (w.setCell ⟨g, o, none⟩ (.int .i64 m)) ql (some ⟨g, 0, none⟩) := by
  subst ho
  have hne : ∀ k, k ≠ g → (w.setCell ⟨g, i * 2 + 1, none⟩ (.int .i64 m)).heap[k]? = w.heap[k]? := fun k hk => heap_setCell_other _ _ _ _ hk
  have hyg : y ≠ g := fun e => H.yc _ rfl e.symm
  obtain ⟨hp, rl, rc, yl, yc, lc⟩ := H
  rcases rc with ⟨h, -⟩ | ⟨g', e, h⟩
  · cases h
  injection e with e
  injection e with e
  subst e
  refine ⟨⟨by rw [hne y hyg]; exact hp, rl.same (fun a ha => hne _ (fun e => lc a _ ha rfl e)), Or.inr ⟨_, rfl, ?_⟩, yl, yc, lc⟩, ⟨⟨rfl, rfl, rfl, by simp [World.setCell], fun k hk hF => hne k (fun e => hF (Or.inr (Or.inr ⟨_, rfl, e.symm⟩)))⟩, Gr.refl _ _⟩⟩
  exact h.set i 1 ⟨Q[i].key, m⟩ (.int .i64 m) hi (by decide) rfl
end
/-- A row of counts that has grown, before it is kept. -/
theorem yr_app {w w' : World} {y : Nat} {ql : Option Addr} {nl cl : Nat} {qc : Option Addr} {nc cc : Nat} {P : List (En PV)} {Q : List Cn} {t : Nat} {q' : Option Addr} {c' : Nat} {u : Cn} (H : YR w y ql nl cl qc nc cc P Q t) (hr : RowY cnE w' q' (nc + 1) c' (Q ++ [u])) (hg : w.grownBy w' (qc.map (·.block)))
    (ha : ∀ a, q' = some a → (∃ b, qc = some b ∧ a.block = b.block) ∨ a.block = w.heap.size) :
    (w'.cell? ⟨y, 0, none⟩ = some (.slice ql nl cl) ∧ w'.cell? ⟨y, 1, none⟩ = some (.slice qc nc cc) ∧ w'.cell? ⟨y, 2, none⟩ = some (.int .i64 t)) ∧ w'.frozen? ⟨y, 1, none⟩ = false ∧
      YR (w'.setCell ⟨y, 1, none⟩ (.slice q' (nc + 1) c')) y ql nl cl q' (nc + 1) c' P (Q ++ [u]) t ∧ YStep w y ql qc (w'.setCell ⟨y, 1, none⟩ (.slice q' (nc + 1) c')) ql q' := by
  have hlt := H.lt
  have hk : ∀ k, k < w.heap.size → (∀ b, qc = some b → b.block ≠ k) → w'.heap[k]? = w.heap[k]? := fun k hk hne => hg.block k hk (fun e => by
    cases qc with
    | none => cases e
    | some b =>
      injection e with e
      exact hne b rfl e.symm)
  have hy : y < w.heap.size := hlt y (Or.inl rfl)
  have hp' : w'.heap[y]? = some (.cells #[.slice ql nl cl, .slice qc nc cc, .int .i64 t] 30 (0, 0)) := by
    rw [hk y hy (fun b hb => H.yc b hb)]
    exact H.hp
  have hq : ∀ a, q' = some a → a.block ≠ y := fun a h => by
    rcases ha a h with ⟨b, hb, e⟩ | e
    · rw [e]; exact H.yc b hb
    · omega
  have hl : ∀ a, ql = some a → ∀ b, q' = some b → a.block ≠ b.block := fun a h b h2 => by
    rcases ha b h2 with ⟨b', hb, e⟩ | e
    · rw [e]; exact H.lc a b' h hb
    · have := hlt a.block (Or.inr (Or.inl ⟨a, h, rfl⟩))
      omega
  have hs : ∀ k, k ≠ y → (w'.setCell ⟨y, 1, none⟩ (.slice q' (nc + 1) c')).heap[k]? = w'.heap[k]? := fun k hk => heap_setCell_other _ _ _ _ hk
  refine ⟨⟨?_, ?_, ?_⟩, frozen_of_row _ _ _ _ 30 hp', ⟨heap_setCell_same _ _ 1 _ _ _ hp', H.rl.same (fun a h => ?_), hr.same (fun a h => hs _ (hq a h)), H.yl, hq, fun a b h h2 => hl a h b h2⟩, ⟨⟨hg.os, hg.tape, hg.output, ?_, fun k hk2 hF => ?_⟩, fun k hF => ?_⟩⟩
  · rw [cell_of_row _ _ _ _ 30 _ hp']; rfl
  · rw [cell_of_row _ _ _ _ 30 _ hp']; rfl
  · rw [cell_of_row _ _ _ _ 30 _ hp']; rfl
  · rw [hs _ (H.yl a h)]
    exact hk _ (hlt _ (Or.inr (Or.inl ⟨a, h, rfl⟩))) (fun b hb => fun e => H.lc a b h hb e.symm)
  · have := hg.size
    simpa [World.setCell] using this
  · rw [hs k (fun e => hF (Or.inl e))]
    exact hk k hk2 (fun b hb e => hF (Or.inr (Or.inr ⟨b, hb, e⟩)))
  · rcases hF with h | h | ⟨a, h, h2⟩
    · exact Or.inl (Or.inl h)
    · exact Or.inl (Or.inr (Or.inl h))
    · rcases ha a h with ⟨b, hb, e⟩ | e
      · exact Or.inl (Or.inr (Or.inr ⟨b, hb, by rw [← e]; exact h2⟩))
      · exact Or.inr (by omega)
set_option maxHeartbeats 4000000 in
theorem rcount {y : Nat} {ql : Option Addr} {nl cl : Nat} {qc : Option Addr} {nc cc : Nat} {P : List (En PV)} {Q : List Cn} {t : Nat} (K : ByteArray) (k : List UInt8) (w : World) (hK : K.data.toList = k) (H : YR w y ql nl cl qc nc cc P Q t) (hz : nc ≤ 1000000) (hm : ∀ x ∈ Q, x.n ≤ 1000000000000) :
    Calls Try.prog 40 #[.pointer (some ⟨y, 0, none⟩), .string K] w fun e w' => e = .returned (.tuple #[]) ∧ ∃ qc' nc' cc' Q', YR w' y ql nl cl qc' nc' cc' P Q' t ∧ YStep w y ql qc w' ql qc' ∧ (∀ x, cntL Q' x = cnt k (cntL Q) x) ∧ LenP Q Q' k := by
  have HH := Lib.hid H
  have HS := Lib.hid H.rc.rs
  have HN := Lib.hid H.rc.len
  have HK := Lib.hid hK
  have HM := Lib.hid hm
  have HFr := Lib.hid (yr_frz H)
  obtain ⟨c0, c1, c2⟩ := yr_cells H
  clear H hK hm
  go_enter Try.func40, Try.ntmps40
  go_wp2_with fail
  go_loopw [4] (fun i wr => ∃ j : Nat, i = .int .i64 (j : Int) ∧ j ≤ nc ∧ Hid (∀ x (h : x < Q.length), x < j → Q[x].key ≠ k) ∧ wr = w) (fun i _ => nc + 1 - (intOf i).toNat)
  case atStart => exact ⟨0, rfl, Nat.zero_le _, Lib.hid (fun x h hx => absurd hx (by omega)), rfl⟩
  case round =>
    obtain ⟨j, rfl, hj, HR, rfl⟩ := hrel
    by_cases hlt : j < nc
    · have d1 : decide ((j : Int) < (nc : Int)) = true := decide_eq_true (by omega)
      have hj0 : (0 : Int) ≤ (j : Int) := by omega
      have hjn : (j : Int) < (nc : Int) := by omega
      have hjq : j < Q.length := by rw [HN.out]; exact hlt
      obtain ⟨g, rfl⟩ : ∃ g, qc = some ⟨g, 0, none⟩ := by
        rcases HH.out.rc with ⟨-, h, -⟩ | ⟨g, h, -⟩
        · omega
        · exact ⟨g, h⟩
      have u0 : wr.cell? ⟨g, j * 2, none⟩ = some (.string ⟨(Q[j]'hjq).key.toArray⟩) := by
        obtain ⟨b, off, e, -, u0, -⟩ := cn_cells HS.out j hjq
        injection e with e
        injection e with e1 e2
        subst e1 e2
        rw [Nat.zero_add] at u0
        exact u0
      have u1 : wr.cell? ⟨g, j * 2 + 1, none⟩ = some (.int .i64 (Q[j]'hjq).n) := by
        obtain ⟨b, off, e, -, -, u1⟩ := cn_cells HS.out j hjq
        injection e with e
        injection e with e1 e2
        subst e1 e2
        rw [Nat.zero_add] at u1
        exact u1
      have f1 : wr.frozen? ⟨g, j * 2 + 1, none⟩ = false := by
        rcases HH.out.rc with ⟨h, -⟩ | ⟨g', e, h⟩
        · cases h
        · injection e with e
          injection e with e
          subst e
          exact h.frz _
      obtain ⟨A, hA⟩ : ∃ A : ByteArray, A = ⟨(Q[j]'hjq).key.toArray⟩ := ⟨_, rfl⟩
      rw [← hA] at u0
      have he := key_eq hA HK.out
      by_cases hk : (Q[j]'hjq).key = k
      · rw [decide_eq_true hk] at he
        have hAK := key_same he
        have hn1 := HM.out _ (List.getElem_mem hjq)
        have HF := Lib.hid (show ∀ x, cntL (Q.set j ⟨(Q[j]'hjq).key, (Q[j]'hjq).n + 1⟩) x = cnt k (cntL Q) x by rw [hk]; exact cnt_set hjq hk (fun x h hx => HR.out x h hx))
        have HLp := Lib.hid (show LenP Q (Q.set j ⟨(Q[j]'hjq).key, (Q[j]'hjq).n + 1⟩) k from lenP_set hjq _ k)
        have HY := Lib.hid (fun nq => yr_count (show YR (wr.drewN nq) _ _ _ _ _ _ _ _ _ _ from HH.out.same (fun _ _ => rfl)) j hjq ((Q[j]'hjq).n + 1) (j * 2 + 1) rfl)
        generalize (Q[j]'hjq).n = N at u1 HF HY HLp hn1
        have hN0 : (0 : Int) ≤ (N : Int) := by omega
        have hN1 : (N : Int) ≤ 1000000000000 := by omega
        clear hA hk
        subst hAK
        go_wp2_with fail
        refine wp_region_quiet_tail_lit 16 (by kernel_rfl) (by kernel_rfl) ?_
        simp only [List.take_succ_cons, List.take_zero, List.drop_succ_cons, List.drop_zero]
        repeat (go_big_quiet_step (fail))
        refine wpQuiet_nil ?_
        rintro _ ⟨nq, rfl⟩
        have HYq := Lib.hid (HY.out nq)
        clear HY
        have v1 : (wr.drewN nq).cell? ⟨g, j * 2 + 1, none⟩ = some (.int .i64 N) := u1
        have v2 : (wr.drewN nq).frozen? ⟨g, j * 2 + 1, none⟩ = false := f1
        have HOf := Lib.hid (show Off (FY y ql (some ⟨g, 0, none⟩)) wr (wr.drewN nq) from ⟨rfl, rfl, rfl, Nat.le_refl _, fun _ _ _ => rfl⟩)
        clear u0 u1 f1 c0 c1 c2
        generalize wr.drewN nq = w5 at HYq v1 v2 HOf ⊢
        go_wp2_with fail
        (try simp only [Exit.inBlock, Exit.then])
        refine bodyPost_ret (results_none rfl _ _ _) rfl ?_
        exact ⟨rfl, _, _, _, _, HYq.out.1, ⟨HOf.out.trans HYq.out.2.off (Gr.refl _ _), fun k hk => Or.inl hk⟩, HF.out, HLp.out⟩
      · rw [decide_eq_false hk] at he
        have hAK := key_ne he
        have HG := Lib.hid (show ∀ x (h : x < Q.length), x < j + 1 → Q[x].key ≠ k from fun x h hx => by
          rcases Nat.lt_or_ge x j with h1 | h1
          · exact HR.out x h h1
          · obtain rfl : x = j := by omega
            exact hk)
        clear hA hk u1 f1
        go_wp2_with fail
        go_roundw
        case rel => exact ⟨j + 1, by go_num, by omega, HG, by first | rfl | trivial⟩
        case measure => simp [intOf]; omega
    · have d1 : decide ((j : Int) < (nc : Int)) = false := decide_eq_false (by omega)
      have HF := Lib.hid (cnt_app (Q := Q) (k := k) (fun x h => HR.out x h (by have := HN.out; omega)))
      have HLp := Lib.hid (show LenP Q (Q ++ [⟨k, 1⟩]) k from lenP_app (cntL_none (Q := Q) (k := k) (fun x h => HR.out x h (by have := HN.out; omega))))
      obtain ⟨A, hA⟩ : ∃ A : ByteArray, A = K := ⟨_, rfl⟩
      have HKe := Lib.hid (show K = ⟨k.toArray⟩ by rw [← HK.out])
      have HNw := Lib.hid (rec_new cnE wr wr.heap.size ⟨k, 1⟩ #[.string K, .int .i64 1] (by rw [HKe.out]; rfl) rfl)
      have HYa := Lib.hid (show YR (wr.alloc (.cells #[.string K, .int .i64 1] cnE.ty)) _ _ _ _ _ _ _ _ _ _ from HH.out.same (fun k hk => Below.heap_alloc _ _ _ (HH.out.lt k hk)))
      have HOa := Lib.hid (show Off (FY y ql qc) wr (wr.alloc (.cells #[.string K, .int .i64 1] cnE.ty)) from Off.of_below ((Below.refl _ _).alloc (Nat.le_refl _) _))
      clear hA A
      have hz2 : nc ≤ 1048576 := by omega
      go_wp2_with (refine wpList_append_y cnE rfl (.tmp 44) (.tmp 47) rfl qc nc cc Q rfl HYa.out.rc wr.heap.size ⟨k, 1⟩ 1 rfl HNw.out hz2 ?_; intro q' c'' w3 hy3 hg3 ha3; have HE3 := Lib.hid (yr_app HYa.out hy3.out hg3.out ha3.out); clear c0 c1 c2; obtain ⟨c0, c1, c2⟩ := HE3.out.1; have f1 := HE3.out.2.1)
      go_end0
      exact ⟨rfl, q', nc + 1, c'', _, HE3.out.2.2.1, HE3.out.2.2.2.after ((Below.refl _ _).alloc (Nat.le_refl _) _), HF.out, HLp.out⟩

/-- The row of entries set anew, to one in new memory. -/
theorem yr_row {w w' : World} {y : Nat} {ql : Option Addr} {nl cl : Nat} {qc : Option Addr} {nc cc : Nat} {P Z : List (En PV)} {Q : List Cn} {t : Nat} {q' : Option Addr} {n' c' : Nat} (H : YR w y ql nl cl qc nc cc P Q t) (hb : Below w.heap.size w w') (hr : RowY enE w' q' n' c' Z) (ha : ∀ a, q' = some a → w.heap.size ≤ a.block) :
    (w'.cell? ⟨y, 0, none⟩ = some (.slice ql nl cl) ∧ w'.cell? ⟨y, 1, none⟩ = some (.slice qc nc cc) ∧ w'.cell? ⟨y, 2, none⟩ = some (.int .i64 t)) ∧ w'.frozen? ⟨y, 0, none⟩ = false ∧
      YR (w'.setCell ⟨y, 0, none⟩ (.slice q' n' c')) y q' n' c' qc nc cc Z Q t ∧ YStep w y ql qc (w'.setCell ⟨y, 0, none⟩ (.slice q' n' c')) q' qc := by
  have hlt := H.lt
  have H' : YR w' y ql nl cl qc nc cc P Q t := H.same (fun k hk => hb.block k (hlt k hk))
  have hs : ∀ k, k ≠ y → (w'.setCell ⟨y, 0, none⟩ (.slice q' n' c')).heap[k]? = w'.heap[k]? := fun k hk => heap_setCell_other _ _ _ _ hk
  have hy : y < w.heap.size := hlt y (Or.inl rfl)
  have hq : ∀ a, q' = some a → a.block ≠ y := fun a h => by have := ha a h; omega
  refine ⟨yr_cells H', yr_frz H' 0, ⟨heap_setCell_same _ _ 0 _ _ _ H'.hp, hr.same (fun a h => hs _ (hq a h)), H'.rc.same (fun a h => hs _ (H.yc a h)), hq, H.yc, fun a b h h2 => ?_⟩, ⟨⟨hb.os, hb.tape, hb.output, ?_, fun k hk hF => ?_⟩, fun k hF => ?_⟩⟩
  · have := ha a h
    have := hlt b.block (Or.inr (Or.inr ⟨b, h2, rfl⟩))
    omega
  · have := hb.size
    simpa [World.setCell] using this
  · rw [hs k (fun e => hF (Or.inl e))]
    exact hb.block k hk
  · rcases hF with h | ⟨a, h, h2⟩ | h
    · exact Or.inl (Or.inl h)
    · exact Or.inr (by have := ha a h; omega)
    · exact Or.inl (Or.inr (Or.inr h))
theorem part_some (g c lo : Nat) : ∃ o, RowG.partAt enE (some ⟨g, 0, none⟩) c lo = some ⟨g, o, none⟩ ∧ (if c = lo then (some ⟨g, 0, none⟩ : Option Addr) else some ⟨g, lo * 9, none⟩) = some ⟨g, o, none⟩ := by
  unfold RowG.partAt
  split
  · exact ⟨0, rfl, rfl⟩
  · exact ⟨lo * 9, by simp [Addr.add, enE]; omega, rfl⟩
set_option maxHeartbeats 4000000 in
theorem rdrop {y : Nat} {ql : Option Addr} {nl cl : Nat} {qc : Option Addr} {nc cc : Nat} {P : List (En PV)} {Q : List Cn} {t : Nat} (i : Nat) (w : World) (hi : i < nl) (H : YR w y ql nl cl qc nc cc P Q t) (hz : nl ≤ 1000000) :
    Calls Try.prog 41 #[.pointer (some ⟨y, 0, none⟩), .int .i64 (i : Int)] w fun e w' => e = .returned (.tuple #[]) ∧ ∃ ql' nl' cl', YR w' y ql' nl' cl' qc nc cc (P.take i ++ P.drop (i + 1)) Q t ∧ YStep w y ql qc w' ql' qc := by
  have hl := H.rl.len
  have hcap := H.rl.cap
  have hrs := H.rl.rs
  obtain ⟨g, rfl⟩ : ∃ g, ql = some ⟨g, 0, none⟩ := by
    rcases H.rl with ⟨-, h, -⟩ | ⟨g, h, -⟩
    · omega
    · exact ⟨g, h⟩
  obtain ⟨o2, ho2, hif⟩ := part_some g cl (i + 1)
  have hwr : IntKind.i64.wrap ((i : Int) + 1) = (i : Int) + 1 := by rw [IntKind.wrap_i64]; omega
  have HM1 := Lib.hid (show Rs enE w (some ⟨g, 0, none⟩) (P.take i) from hrs.take i)
  have HM2 := Lib.hid (show Rs enE w (some ⟨g, o2, none⟩) (P.drop (i + 1)) by rw [← ho2]; exact hrs.drop (i + 1) (by omega) cl (by omega))
  have HL1 := Lib.hid (show (P.take i).length = i by rw [List.length_take]; omega)
  have HL2 := Lib.hid (show (P.drop (i + 1)).length = nl - (i + 1) by rw [List.length_drop, hl])
  obtain ⟨Z1, hZ1⟩ : ∃ Z1, Z1 = P.take i := ⟨_, rfl⟩
  obtain ⟨Z2, hZ2⟩ : ∃ Z2, Z2 = P.drop (i + 1) := ⟨_, rfl⟩
  rw [← hZ1] at HM1 HL1
  rw [← hZ2] at HL2
  rw [← hZ2] at HM2
  rw [← hZ1, ← hZ2]
  have HZm := Lib.hid (show i ≤ 1000000 ∧ nl - (i + 1) ≤ 1000000 by omega)
  have HH := Lib.hid H
  obtain ⟨c0, c1, c2⟩ := yr_cells H
  have hi0 : (0 : Int) ≤ (i : Int) := by omega
  have hi01 : (0 : Int) ≤ (i : Int) + 1 := by omega
  have hi1 : (i : Int) + 1 ≤ (nl : Int) := by omega
  have HHk := Lib.hid (fun W (hb : Below w.heap.size w W) => yr_cells (H.same (w' := W) (fun k hk => hb.block k (H.lt k hk))))
  have hyl := H.lt y (Or.inl rfl)
  have hic : (i : Int) ≤ (cl : Int) := by omega
  clear hl hcap hrs ho2 hZ1 hZ2 H hi hz
  go_enter Try.func41, Try.ntmps41
  go_wp2_with fail
  go_region_law (first
    | (refine step_append_rs enE (w0 := w) rfl (.tmp 5) (.tmp 11) rfl _ [] rfl ?o1 ?o2 g 0 Z1 i cl rfl HL1.out (HM1.out.keep ?o3) (by have := HZm.out; simp; omega) Z1 rfl ?_
       case o1 => first | exact ownR_new enE w.heap.size w.drew w.heap.size rfl (Nat.le_refl _) | exact ownR_new enE w.heap.size w w.heap.size rfl (Nat.le_refl _)
       case o2 => first | exact (Below.refl _ _).drew.alloc (Nat.le_refl _) _ | exact (Below.refl _ _).alloc (Nat.le_refl _) _
       case o3 => first | exact (Below.refl _ _).drew.alloc (Nat.le_refl _) _ | exact (Below.refl _ _).alloc (Nat.le_refl _) _
       intro v4 w4 ho4 hb4
       obtain ⟨c0, c1, c2⟩ := HHk.out w4 hb4)
    | (refine step_append_rs enE (w0 := w) rfl (.tmp 12) (.tmp 19) rfl v4 Z1 rfl ho4 hb4 g o2 Z2 (nl - (i + 1)) (cl - (i + 1)) rfl HL2.out (HM2.out.keep hb4) (by have := HZm.out; have := HL1.out; omega) (Z1 ++ Z2) rfl ?_
       intro v5 w5 ho5 hb5
       obtain ⟨q5, c5, rfl, hr5, ha5⟩ := rowY_of ho5
       generalize (Z1 ++ Z2).length = n5 at hr5 ⊢
       have HE5 := Lib.hid (yr_row HH.out hb5 hr5 ha5)
       clear c0 c1 c2
       obtain ⟨c0, c1, c2⟩ := HE5.out.1
       have f0 := HE5.out.2.1))
  all_goals
    go_wp2_with fail
    go_end0
    exact ⟨rfl, _, _, _, HE5.out.2.2.1, HE5.out.2.2.2⟩

end Go.Proofs.Ytbcjgkedlapmhaa.RefY
