/-
  The landed code of layer 14: slices.BinarySearch, Insert and Delete at rows of texts of one's own.
-/
import Derived.Test.YtmdkegamfjkfbaaDoorOwnIn
import Derived.Test.YtmdkegamfjkfbaaDoorValRowz
import Derived.Test.YtmdkegamfjkfbaaDoorSetPure
import Derived.Test.YtmdkegamfjkfbaaDoorShelfS
import Derived.Test.YtmdkegamfjkfbaaDoorLawKit
import Derived.Shelf.Spec.SlicesInsert
import Derived.Deep.RegionLaw
import Derived.Lib.Hide
namespace Go.Proofs.YtmdkegamfjkfbaaDoor.SetM
open Go.RowKit Kit StrT RowG BOrd ValT SetT
open Go.Op (bytesLess)
set_option linter.unusedVariables false
set_option maxRecDepth 100000
/-- An append of which the run is known, as one step of a region that draws. -/
theorem step_append_runI {P : Program} {ops : Array Oper} {o : Oper} {a : Act} {w : World} {K : Act → World → Prop} {Q : Exit → Act → World → Prop} {F : Prop}
    (hg : o.guard = none) (d x : Operand) (dT sT : TypeId) (hop : o.op = Op.call { callee := Callee.builtin Builtin.append, args := #[d, x], argTypes := #[dT, sT] })
    (v u : Value) (hd : a.eval d = v) (hx : a.eval x = u) {v' : Value} {w' : World} (hr : (Builtin.append_ #[dT, sT] o.type #[v, u]).run P w = .ok v' w') (hK : K (a.put o.dst v') w') :
    if Region.wanted o (yielded ops a.tmps) = true then Oper.wp P o a w K Q else F := by
  rw [if_pos (by simp [Region.wanted, hg])]
  exact Lib.wp_append_run w d x dT sT hop v u hd hx v' w' hr hK

theorem at_off (E : Enc (List UInt8)) (g c lo : Nat) (h : c ≠ lo) : RowG.partAt E (some ⟨g, 0, none⟩) c lo = some ⟨g, lo * E.sz, none⟩ := by
  unfold RowG.partAt
  rw [if_neg h]
  show some (Addr.add ⟨g, 0, none⟩ (lo * E.sz)) = _
  rw [Addr.add_lit, Nat.zero_add]
set_option maxHeartbeats 8000000 in
theorem insert_tight (w0 w : World) (q : Option Addr) (n i : Nat) (L : List (List UInt8)) (x : (List UInt8)) (vb : Nat) (hb : Below w0.heap.size w0 w) (ho : OwnR strE w0.heap.size w (.slice q n n) L) (hn : L.length = n) (hlt : i < n) (hm : n ≤ 1048576) (hx : ∀ j, j < strE.sz → w.cell? ⟨vb, j, none⟩ = (strE.enc x)[j]?) (hvb : vb < w.heap.size) :
    Calls Tryd.prog 48 #[.slice q n n, .int .i64 (i : Int), .slice (some ⟨vb, 0, none⟩) 1 1] w fun e w' => ∃ q' c', e = .returned (.slice q' (n + 1) c') ∧ OwnR strE w0.heap.size w' (.slice q' (n + 1) c') (L.take i ++ x :: L.drop i) ∧ Below w0.heap.size w0 w' ∧ (∀ k, k < w.heap.size → some k ≠ (Value.slice q n n).ownBlock → w'.heap[k]? = w.heap[k]?) ∧ (∀ k, (Value.slice q' (n + 1) c').ownBlock = some k → (Value.slice q n n).ownBlock = some k ∨ w.heap.size ≤ k) ∧ w.heap.size ≤ w'.heap.size := by
  have hi : i ≤ n := by omega
  have hX : ∀ W, Below w.heap.size w W → Rs strE W (some ⟨vb, 0, none⟩) [x] := fun W hW _ => ⟨vb, 0, rfl, Nat.lt_of_lt_of_le hvb hW.size, fun j hj => by
    rw [Nat.zero_add, hW.cell (p := ⟨vb, j, none⟩) hvb, hx j (by simpa using hj), flat_one1]⟩
  have s1 : ∀ W, (Instr.slice 22 (.slice q n n) (some (.int .i64 (i : Int))) none none).run Tryd.prog W = .ok (.slice (RowG.partAt strE q n i) (n - i) (n - i)) W := fun W => sl_from strE q n n i hi (Nat.le_refl _) W
  obtain ⟨q0, c0, e0, h1, h2, h3, h4⟩ := OwnR.rowO ho
  injection e0 with e1 e2 e3
  clear e2
  subst e1
  rcases h4 with h4 | ⟨b, rfl, hbb, hO⟩
  · rw [h4] at hn
    simp at hn
    omega
  rw [hn] at hO
  subst e3
  have hR := hO.rs
  have hbl := hO.lt
  have hO0 := Lib.hid hO
  have hik : i + (n + 1 - i) = n + 1 := by omega
  obtain ⟨G, w1, hr1, hO1, hG, hB1⟩ := run_grow_in strE w 29 3 (by kernel_rfl) b 0 (L.take i) i (n + 1 - i) n (by rw [List.length_take]; omega) ((ownB_take hO i hi).rs) (by omega) (by omega) (by omega)
  rw [hik] at hr1 hG
  have hr1' : ∀ ty, (Builtin.append_ #[22, 3] ty #[.slice (some ⟨b, 0, none⟩) i n, .int .i64 ((n : Int) + 1 - (i : Int))]).run Tryd.prog w = .ok (.slice (some ⟨w.heap.size, 0, none⟩) (n + 1) G) w1 := fun ty => by
    rw [show (n : Int) + 1 - (i : Int) = ((n + 1 - i : Nat) : Int) by omega]
    exact hr1
  obtain ⟨w2, hr2, hI2⟩ := run_copy_in (E := strE) 29 hO1 ⟨vb, 0, none⟩ [x] 1 1 (n + 1 - i) (G - i) (i * strE.sz) rfl rfl (hX w1 hB1) (by omega) (by omega)
  have hr2' : ∀ ty, (Builtin.copy_ #[22, 22] ty #[.slice (some ⟨w.heap.size, i * strE.sz, none⟩) (n + 1 - i) (G - i), .slice (some ⟨vb, 0, none⟩) 1 1]).run Tryd.prog w1 = .ok (goInt 1) w2 := fun ty => hr2
  have hB2 : Below w.heap.size w w2 := hI2.bl _ _ hB1 (Nat.le_refl _)
  have hRd : Rs strE w2.drew (some ⟨b, i * strE.sz, none⟩) (L.drop i) := by
    have := (hR.keep hB2).drop i (by omega) n (by omega)
    rw [at_off strE b n i (by omega)] at this
    exact this
  obtain ⟨w3, hr3, hI3⟩ := run_copy_in (E := strE) (w := w2.drew) 29 hI2.ow ⟨b, i * strE.sz, none⟩ (L.drop i) (n - i) (n - i) (n + 1 - (i + 1)) (G - (i + 1)) ((i + 1) * strE.sz) rfl (by rw [List.length_drop]; omega) hRd (by omega) (by omega)
  have hr3' : ∀ ty, (Builtin.copy_ #[22, 22] ty #[.slice (some ⟨w.heap.size, (i + 1) * strE.sz, none⟩) (n + 1 - (i + 1)) (G - (i + 1)), .slice (some ⟨b, i * strE.sz, none⟩) (n - i) (n - i)]).run Tryd.prog w2.drew = .ok (goInt ((n - i : Nat) : Int)) w3 := fun ty => hr3
  have hB3 : Below w.heap.size w w3 := hI3.bl _ _ hB2.drew (Nat.le_refl _)
  have HE := Lib.hid (show OwnR strE w0.heap.size w3 (.slice (some ⟨w.heap.size, 0, none⟩) (n + 1) G) (L.take i ++ x :: L.drop i) from by
    obtain ⟨g1, g2, cur, g3, g4, g5, g6⟩ := hI3.ow
    have e : L.take i ++ [x] ++ L.drop i = L.take i ++ x :: L.drop i := by simp
    have el : i + 1 + (n - i) = n + 1 := by omega
    rw [el] at g6
    rw [e] at g1 g6
    exact ⟨by rw [flat_len], Or.inr ⟨_, G, cur, by rw [g1, el], hb.size, g3, by rw [g1, el]; exact hG, by unfold maxLen; omega, g5, by rw [g1, el]; exact g6⟩⟩)
  have HB := Lib.hid (show Below w0.heap.size w0 w3 ∧ (∀ k, k < w.heap.size → some k ≠ (Value.slice (some ⟨b, 0, none⟩) n n).ownBlock → w3.heap[k]? = w.heap[k]?) ∧ w.heap.size ≤ w3.heap.size from ⟨hb.trans (hB3.mono hb.size), fun k hk _ => hB3.block k hk, hB3.size⟩)
  have HGs : Hid (∃ y, y = w.heap.size) := Lib.hid ⟨_, rfl⟩
  rw [at_off strE b n i (by omega)] at s1
  have s2 : ∀ W, (Instr.slice 22 (.slice (some ⟨b, 0, none⟩) n n) none (some (.int .i64 (i : Int))) none).run Tryd.prog W = .ok (.slice (some ⟨b, 0, none⟩) i n) W := fun W => sl_upto strE _ n n i hi W
  have s3 : ∀ W, (Instr.slice 22 (.slice (some ⟨w.heap.size, 0, none⟩) (n + 1) G) (some (.int .i64 (i : Int))) none none).run Tryd.prog W = .ok (.slice (some ⟨w.heap.size, i * strE.sz, none⟩) (n + 1 - i) (G - i)) W := fun W => by
    have := sl_from strE (some ⟨w.heap.size, 0, none⟩) (n + 1) G i (by omega) hG W
    rw [at_off strE _ G i (by omega)] at this
    exact this
  have s4 : ∀ W, (Instr.slice 22 (.slice (some ⟨w.heap.size, 0, none⟩) (n + 1) G) (some (.int .i64 ((i : Int) + 1))) none none).run Tryd.prog W = .ok (.slice (some ⟨w.heap.size, (i + 1) * strE.sz, none⟩) (n + 1 - (i + 1)) (G - (i + 1))) W := fun W => by
    have := sl_from strE (some ⟨w.heap.size, 0, none⟩) (n + 1) G (i + 1) (by omega) hG W
    rw [at_off strE _ G (i + 1) (by omega)] at this
    exact this
  have H1 := Lib.hid hr1'
  have H2 := Lib.hid hr2'
  have H3 := Lib.hid hr3'
  have t1 : ((i : Int) == (n : Int)) = false := by rw [beq_eq_false_iff_ne]; omega
  have t2 : ¬ (i : Int) = (n : Int) := by omega
  have b1 : (0 : Int) ≤ (i : Int) + 1 := by omega
  have b2 : (i : Int) ≤ (n : Int) := by omega
  have HW := Lib.hid (show IntKind.i64.wrap ((i : Int) + 1) = (i : Int) + 1 from IntWalk.i64_in _ (by omega))
  generalize strE.sz = sz at s1 s3 s4 H2 H3
  obtain ⟨o1, ho1⟩ : ∃ o, o = i * sz := ⟨_, rfl⟩
  obtain ⟨o2, ho2⟩ : ∃ o, o = (i + 1) * sz := ⟨_, rfl⟩
  obtain ⟨m1, hm1⟩ : ∃ o, o = n - i := ⟨_, rfl⟩
  obtain ⟨m2, hm2⟩ : ∃ o, o = n + 1 - i := ⟨_, rfl⟩
  obtain ⟨m3, hm3⟩ : ∃ o, o = n + 1 - (i + 1) := ⟨_, rfl⟩
  obtain ⟨k1, hk1⟩ : ∃ o, o = G - i := ⟨_, rfl⟩
  obtain ⟨k2, hk2⟩ : ∃ o, o = G - (i + 1) := ⟨_, rfl⟩
  rw [← ho1, ← hm1] at s1
  rw [← ho1, ← hm2, ← hk1] at s3 H2
  rw [← ho2, ← hm3, ← hk2] at s4
  rw [← ho2, ← hm3, ← hk2, ← ho1, ← hm1] at H3
  generalize w.heap.size = g at s3 s4 H1 H2 H3 HE HB ⊢
  clear ho1 ho2 hm1 hm2 hm3 hk1 hk2 hr1 hr1' hr2 hr2' hr3 hr3' hO1 hI2 hI3 hRd hB1 hB2 hB3 hG hik hO hO0 hR hX hx hn ho hb hbb hvb h1 h2 h3 hi
  go_enter Tryd.func48, Tryd.ntmps48
  go_wp2_with (first
    | (at_builtin; refine Lib.wpList_append_run _ rfl _ _ _ _ rfl _ _ rfl rfl _ _ (H1.out _) ?_)
    | (with_reducible refine wpList_copy_runI _ rfl (.tmp 43) (.tmp 44) 22 22 rfl _ _ rfl rfl (H2.out _) ?_))
  have hw := HW.out
  go_region_law (refine step_copy_runI rfl _ _ 22 22 rfl (.slice (some ⟨g, o2, none⟩) m3 k2) (.slice (some ⟨b, o1, none⟩) m1 m1) (by simp [Act.eval, Act.put]) (by simp [Act.eval, Act.put]) (H3.out 3) ?_)
  clear hw
  go_wp2_with fail
  go_ret
  exact ⟨_, _, rfl, HE.out, HB.out.1, HB.out.2.1, fun k hk => Or.inr (Nat.le_of_eq (Option.some.inj hk)), HB.out.2.2⟩
set_option maxHeartbeats 8000000 in
theorem delete_any (w0 w : World) (q : Option Addr) (n c i : Nat) (L : List (List UInt8)) (hb : Below w0.heap.size w0 w) (ho : OwnR strE w0.heap.size w (.slice q n c) L) (hn : L.length = n) (hi : i < n) (hm : n ≤ 1048576) :
    Calls Tryd.prog 47 #[.slice q n c, .int .i64 (i : Int), .int .i64 ((i : Int) + 1)] w fun e w' => e = .returned (.slice q (n - 1) c) ∧ OwnR strE w0.heap.size w' (.slice q (n - 1) c) (L.take i ++ L.drop (i + 1)) ∧ Below w0.heap.size w0 w' ∧ (∀ k, some k ≠ (Value.slice q n c).ownBlock → w'.heap[k]? = w.heap[k]?) ∧ w'.heap.size = w.heap.size := by
  obtain ⟨q0, c0, e0, h1, h2, h3, h4⟩ := OwnR.rowO ho
  injection e0 with e1 e2 e3
  clear e2
  subst e1
  rcases h4 with h4 | ⟨b, rfl, hbb, hO⟩
  · rw [h4] at hn
    simp at hn
    omega
  subst e3
  rw [hn] at hO h1
  have hnc : n ≤ c := h1
  have hR := hO.rs
  obtain ⟨A1, hA1, hRd⟩ : ∃ A1, RowG.partAt strE (some ⟨b, 0, none⟩) c (i + 1) = some A1 ∧ Rs strE w.drew (some A1) (L.drop (i + 1)) := by
    by_cases hc : c = i + 1
    · refine ⟨⟨b, 0, none⟩, by unfold RowG.partAt; rw [if_pos hc], fun h0 => ?_⟩
      rw [List.length_drop] at h0
      omega
    · refine ⟨⟨b, (i + 1) * strE.sz, none⟩, at_off strE b c (i + 1) hc, ?_⟩
      have := hR.drop (i + 1) (by omega) c (by omega)
      rw [at_off strE b c (i + 1) hc] at this
      exact this
  obtain ⟨w1, hr1, hI1⟩ := run_append_in (E := strE) (w := w.drew) 29 (ownB_take hO i (by omega)) A1 (L.drop (i + 1)) (n - (i + 1)) (c - (i + 1)) (by rw [List.length_drop]; omega) hRd (by omega)
  have el : i + (n - (i + 1)) = n - 1 := by omega
  rw [el] at hr1 hI1
  have hr1' : ∀ ty, (Builtin.append_ #[22, 22] ty #[.slice (some ⟨b, 0, none⟩) i c, .slice (some A1) (n - (i + 1)) (c - (i + 1))]).run Tryd.prog w.drew = .ok (.slice (some ⟨b, 0, none⟩) (n - 1) c) w1 := fun ty => hr1
  obtain ⟨w2, hr2, hI2⟩ := run_clear_in (E := strE) 29 hI1.ow (by intro u hu; simp [strE, Value.cells] at hu; subst hu; rfl) (n - 1) 1 (c - (n - 1)) ((n - 1) * strE.sz) rfl (Nat.le_refl _) (by omega)
  have hr2' : ∀ ty, (Builtin.clear_ #[22] ty #[.slice (some ⟨b, (n - 1) * strE.sz, none⟩) 1 (c - (n - 1))]).run Tryd.prog w1 = .ok (.tuple #[]) w2 := fun ty => hr2
  have HE := Lib.hid (show OwnR strE w0.heap.size w2 (.slice (some ⟨b, 0, none⟩) (n - 1) c) (L.take i ++ L.drop (i + 1)) from by
    obtain ⟨g1, g2, cur, g3, g4, g5, g6⟩ := hI2.ow
    exact ⟨by rw [flat_len], Or.inr ⟨_, c, cur, by rw [g1], hbb, g3, by rw [g1]; exact g2, by unfold maxLen; omega, g5, by rw [g1]; exact g6⟩⟩)
  have HB := Lib.hid (show Below w0.heap.size w0 w2 ∧ (∀ k, some k ≠ (Value.slice (some ⟨b, 0, none⟩) n c).ownBlock → w2.heap[k]? = w.heap[k]?) ∧ w2.heap.size = w.heap.size from ⟨hI2.bl _ _ (hI1.bl _ _ hb.drew hbb) hbb, fun k hk => by
    have hk' : k ≠ b := fun e => hk (by rw [e]; rfl)
    rw [hI2.ot k hk', hI1.ot k hk']
    rfl, hI2.sz.trans hI1.sz⟩)
  have s0 : ∀ W, (Instr.slice 22 (.slice (some ⟨b, 0, none⟩) n c) (some (.int .i64 (i : Int))) (some (.int .i64 ((i : Int) + 1))) (some (.int .i64 (n : Int)))).run Tryd.prog W = .ok (.slice (RowG.partAt strE (some ⟨b, 0, none⟩) n i) 1 (n - i)) W := fun W => by
    rw [run_slice_lhm (P := Tryd.prog) W 22 (some ⟨b, 0, none⟩) n c (elemE strE) .i64 .i64 .i64 (i : Int) ((i : Int) + 1) (n : Int) (by omega) (by omega) (by omega) (by omega), show (Go.sizeOf (Tryd.prog.elem 22)).run Tryd.prog W = .ok strE.sz W from sizeE strE W]
    have e9 : ((i : Int) + 1 - (i : Int)).toNat = 1 := by omega
    simp [Result.andThen, sliced, RowG.partAt]
  have s1 : ∀ W, (Instr.slice 22 (.slice (some ⟨b, 0, none⟩) n c) none (some (.int .i64 (i : Int))) none).run Tryd.prog W = .ok (.slice (some ⟨b, 0, none⟩) i c) W := fun W => sl_upto strE _ n c i (by omega) W
  have s2 : ∀ W, (Instr.slice 22 (.slice (some ⟨b, 0, none⟩) n c) (some (.int .i64 ((i : Int) + 1))) none none).run Tryd.prog W = .ok (.slice (some A1) (n - (i + 1)) (c - (i + 1))) W := fun W => by
    have := sl_from strE (some ⟨b, 0, none⟩) n c (i + 1) (by omega) (by omega) W
    rw [hA1] at this
    exact this
  have s3 : ∀ W, (Instr.slice 22 (.slice (some ⟨b, 0, none⟩) (n - 1) c) (some (.int .i64 (((n - 1 : Nat) : Int)))) (some (.int .i64 (n : Int))) none).run Tryd.prog W = .ok (.slice (some ⟨b, (n - 1) * strE.sz, none⟩) 1 (c - (n - 1))) W := fun W => by
    have := sl_mid strE (some ⟨b, 0, none⟩) (n - 1) c (n - 1) n (by omega) (by omega) W
    rw [at_off strE b c (n - 1) (by omega), show n - (n - 1) = 1 by omega] at this
    exact this
  have H1 := Lib.hid hr1'
  have H2 := Lib.hid hr2'
  have t1 : ((i : Int) == (i : Int) + 1) = false := by rw [beq_eq_false_iff_ne]; omega
  have t2 : ¬ (i : Int) = (i : Int) + 1 := by omega
  obtain ⟨k, hk⟩ : ∃ k, k = n - 1 := ⟨_, rfl⟩
  obtain ⟨m1, hm1⟩ : ∃ k, k = n - (i + 1) := ⟨_, rfl⟩
  obtain ⟨m2, hm2⟩ : ∃ k, k = c - (i + 1) := ⟨_, rfl⟩
  obtain ⟨m3, hm3⟩ : ∃ k, k = RowG.partAt strE (some ⟨b, 0, none⟩) n i := ⟨_, rfl⟩
  obtain ⟨m4, hm4⟩ : ∃ k, k = n - i := ⟨_, rfl⟩
  obtain ⟨o1, ho1⟩ : ∃ o, o = (n - 1) * strE.sz := ⟨_, rfl⟩
  obtain ⟨m5, hm5⟩ : ∃ o, o = c - (n - 1) := ⟨_, rfl⟩
  rw [← hm3, ← hm4] at s0
  rw [← hm1, ← hm2] at s2 H1
  rw [← ho1, ← hm5] at s3 H2
  rw [← hk] at s3 H1 HE ⊢
  clear ho1 hk hm1 hm2 hm3 hm4 hm5 hr1 hr1' hr2 hr2' hI1 hI2 hRd hA1 hO hR hn ho hb hbb h1 h2 h3 el
  go_enter Tryd.func47, Tryd.ntmps47
  go_wp2_with fail
  go_region_law (refine step_append_runI rfl _ _ 22 22 rfl (.slice (some ⟨b, 0, none⟩) i c) (.slice (some A1) m1 m2) (by simp [Act.eval, Act.put]) (by simp [Act.eval, Act.put]) (H1.out _) ?_)
  have h2 := H2.out
  go_wp2_with fail
  go_ret
  exact ⟨rfl, HE.out, HB.out.1, HB.out.2⟩

theorem flat_strs (L : List (List UInt8)) : flat strE L = L.map (fun s => Value.string ⟨s.toArray⟩) := by
  induction L with
  | nil => rfl
  | cons x L ih => rw [flat_cons, ih]; rfl
theorem self_str (S : ByteArray) : (⟨S.data.toList.toArray⟩ : ByteArray) = S := by
  cases S
  simp
/-- Cells set, one behind the other, in a block of one's own. -/
theorem setCells_row (b : Nat) (t : TypeId) : ∀ (vs : List Value) (o : Nat) (w : World) (cur : Array Value), w.heap[b]? = some (.cells cur t (0, 0)) → o + vs.length ≤ cur.size →
    ∃ cur', (w.setCells b o vs).heap[b]? = some (.cells cur' t (0, 0)) ∧ cur'.size = cur.size ∧ cur'.toList = cur.toList.take o ++ vs ++ cur.toList.drop (o + vs.length)
  | [], o, w, cur, h, hs => ⟨cur, h, rfl, by simp⟩
  | v :: vs, o, w, cur, h, hs => by
    rw [List.length_cons] at hs
    obtain ⟨cur', h1, h2, h3⟩ := setCells_row b t vs (o + 1) (w.setCell ⟨b, o, none⟩ v) (cur.setIfInBounds o v) (heap_setCell_same w b o cur t v h) (by simp; omega)
    refine ⟨cur', h1, by rw [h2]; simp, ?_⟩
    rw [h3, Array.toList_setIfInBounds, List.length_cons]
    have ho : o < cur.toList.length := by simp; omega
    rw [List.take_set, List.drop_set_of_lt (by omega)]
    have e : (cur.toList.take (o + 1)).set o v = cur.toList.take o ++ [v] := by
      rw [List.take_succ_eq_append_getElem ho, List.set_append_right _ _ (by simp; omega), show o - (cur.toList.take o).length = 0 by simp; omega]
      rfl
    rw [e, show o + 1 + vs.length = o + (vs.length + 1) by omega]
    simp
theorem setCells_else (b k : Nat) (hk : k ≠ b) : ∀ (vs : List Value) (o : Nat) (w : World), (w.setCells b o vs).heap[k]? = w.heap[k]?
  | [], _, _ => rfl
  | v :: vs, o, w => (setCells_else b k hk vs (o + 1) _).trans (heap_setCell_other _ _ _ _ hk)
theorem setCells_size (b : Nat) : ∀ (vs : List Value) (o : Nat) (w : World), (w.setCells b o vs).heap.size = w.heap.size
  | [], _, _ => rfl
  | v :: vs, o, w => (setCells_size b vs (o + 1) _).trans (by simp)
theorem setCells_below {B b : Nat} (hB : B ≤ b) : ∀ (vs : List Value) (o : Nat) (w0 w : World), Below B w0 w → Below B w0 (w.setCells b o vs)
  | [], _, _, _, h => h
  | v :: vs, o, w0, w, h => setCells_below hB vs (o + 1) w0 _ (h.setCell (p := ⟨b, o, none⟩) hB v)
theorem sz_one : strE.sz = 1 := rfl
theorem ownB_shift {w : World} {b n c i : Nat} {L : List (List UInt8)} (h : OwnB strE w b n c L) (hi : i ≤ n) (hc : n + 1 ≤ c) (X : ByteArray) :
    OwnB strE ((w.drew.setCells b (i + 1) ((flat strE L).drop i)).setCells b i [.string X]) b (n + 1) c (L.take i ++ X.data.toList :: L.drop i) := by
  obtain ⟨h1, h2, cur, h3, h4, h5, h6⟩ := h
  rw [sz_one, Nat.mul_one] at h5 h6
  have hfl : (flat strE L).length = n := by rw [flat_len, sz_one, h1, Nat.mul_one]
  obtain ⟨c1, a1, a2, a3⟩ := setCells_row b strE.ty ((flat strE L).drop i) (i + 1) w.drew cur h3 (by rw [List.length_drop, hfl]; omega)
  obtain ⟨c2, b1, b2, b3⟩ := setCells_row b strE.ty [.string X] i _ c1 a1 (by simp; omega)
  refine ⟨by simp; omega, hc, c2, b1, h4, by rw [sz_one, Nat.mul_one]; omega, ?_⟩
  have e1 : cur.toList.take i = (flat strE L).take i := by rw [← h6, List.take_take, Nat.min_eq_left hi]
  have hcl : cur.toList.length = c := by simp [h5]
  rw [sz_one, Nat.mul_one, b3, a3]
  have e2 : (cur.toList.take (i + 1) ++ (flat strE L).drop i ++ cur.toList.drop (i + 1 + ((flat strE L).drop i).length)).take i = cur.toList.take i := by
    rw [List.append_assoc, List.take_append_of_le_length (by simp; omega), List.take_take, Nat.min_eq_left (by omega)]
  have e3 : (cur.toList.take (i + 1) ++ (flat strE L).drop i ++ cur.toList.drop (i + 1 + ((flat strE L).drop i).length)).drop (i + [Value.string X].length) = (flat strE L).drop i ++ cur.toList.drop (i + 1 + ((flat strE L).drop i).length) := by
    rw [List.append_assoc, List.drop_append_of_le_length (by simp; omega), List.drop_eq_nil_of_le (by simp; omega)]
    rfl
  rw [e2, e3, e1]
  have e4 : flat strE (L.take i ++ X.data.toList :: L.drop i) = (flat strE L).take i ++ [.string X] ++ (flat strE L).drop i := by
    rw [flat_strs, flat_strs, List.map_append, List.map_cons, List.map_take, List.map_drop, self_str]
    simp
  rw [e4, ← List.append_assoc]
  rw [List.take_append_of_le_length (by simp; omega), List.take_of_length_le (by simp; omega)]
theorem ownB_ownR {w : World} {base g n cap : Nat} {L : List (List UInt8)} (h : OwnB strE w g n cap L) (hg : base ≤ g) : OwnR strE base w (.slice (some ⟨g, 0, none⟩) n cap) L := by
  obtain ⟨h1, h2, cur, h3, h4, h5, h6⟩ := h
  subst h1
  exact ⟨by rw [flat_len], Or.inr ⟨g, cap, cur, rfl, hg, h3, h2, by unfold maxLen; omega, h5, h6⟩⟩
set_option maxHeartbeats 8000000 in
theorem insert_any (w0 w : World) (q : Option Addr) (n c i : Nat) (L : List (List UInt8)) (X : ByteArray) (vb : Nat) (hb : Below w0.heap.size w0 w) (ho : OwnR strE w0.heap.size w (.slice q n c) L) (hn : L.length = n) (hi : i ≤ n) (hm : n ≤ 1048576) (hx : w.heap[vb]? = some (.cells #[.string X] 9 (0, 0))) (hne : ∀ k, (Value.slice q n c).ownBlock = some k → k ≠ vb) :
    Calls Tryd.prog 48 #[.slice q n c, .int .i64 (i : Int), .slice (some ⟨vb, 0, none⟩) 1 1] w fun e w' => ∃ q' c', e = .returned (.slice q' (n + 1) c') ∧ OwnR strE w0.heap.size w' (.slice q' (n + 1) c') (L.take i ++ X.data.toList :: L.drop i) ∧ Below w0.heap.size w0 w' ∧ (∀ k, k < w.heap.size → some k ≠ (Value.slice q n c).ownBlock → w'.heap[k]? = w.heap[k]?) ∧ (∀ k, (Value.slice q' (n + 1) c').ownBlock = some k → (Value.slice q n c).ownBlock = some k ∨ w.heap.size ≤ k) ∧ w.heap.size ≤ w'.heap.size := by
  have hvb : vb < w.heap.size := (Array.getElem?_eq_some_iff.1 hx).1
  have hx0 : ∀ j, j < strE.sz → w.cell? ⟨vb, j, none⟩ = (strE.enc X.data.toList)[j]? := fun j hj => by
    have hj0 : j = 0 := by rw [sz_one] at hj; omega
    subst hj0
    rw [cell_of_row _ _ _ _ 9 _ hx]
    show some (Value.string X) = some (Value.string ⟨X.data.toList.toArray⟩)
    rw [self_str]
  rcases Nat.lt_or_ge i n with hlt | hge
  · obtain ⟨q0, c0, e0, h1, h2, h3, h4⟩ := OwnR.rowO ho
    injection e0 with e1 e2 e3
    clear e2
    subst e1 e3
    rw [hn] at h1
    rcases Nat.lt_or_ge n c with hc | hc
    · -- room
      rcases h4 with h4 | ⟨b, rfl, hbb, hO⟩
      · rw [h4] at hn
        simp at hn
        omega
      rw [hn] at hO
      have hbv : vb ≠ b := fun e => hne b rfl e.symm
      obtain ⟨cur, hcur, hcz⟩ : ∃ cur, w.heap[b]? = some (.cells cur strE.ty (0, 0)) ∧ cur.size = c := by
        obtain ⟨-, -, cur, g3, -, g5, -⟩ := id hO
        exact ⟨cur, g3, by rw [g5, sz_one, Nat.mul_one]⟩
      have hfl : (flat strE L).length = n := by rw [flat_len, sz_one, hn, Nat.mul_one]
      have C := Any2.slices_Insert_string_shift Tryd.laysTwo22 b 0 n c i vb 0 1 1 (flat strE L) [.string X] w hlt (by decide) (by omega) h2 hbv hfl rfl
        (fun j v hj => by
          have hjn : j < L.length := by
            have := (List.getElem?_eq_some_iff.1 hj).1
            omega
          have := OwnB.cell hO j 0 hjn (by decide)
          rw [sz_one, Nat.mul_one, Nat.add_zero] at this
          rw [Nat.zero_add, this, ← hj, flat_strs, List.getElem?_map, List.getElem?_eq_getElem hjn]
          rfl)
        (fun j hj => by
          rw [Nat.zero_add, cell_of_row _ _ _ _ strE.ty _ hcur, Array.getElem?_eq_getElem (by omega)]
          rfl)
        (fun j _ => OwnB.frz hO _)
        (fun j v hj => by
          match j with
          | 0 =>
            rw [cell_of_row _ _ _ _ 9 _ hx]
            exact hj
          | j + 1 => simp at hj)
        (flat_one strE L) (by simp [Value.oneCell']) 9 strE.ty 1 c (by simp [World.shape?, hx]) (by simp [World.shape?, hcur, hcz]) (by omega) (frozen_of_row _ _ _ _ 9 hx) (frozen_of_row _ _ _ _ 9 hx)
      refine Calls.mono C ?_
      rintro e w' ⟨rfl, rfl⟩
      rw [Nat.zero_add, Nat.zero_add]
      refine ⟨_, _, rfl, ownB_ownR (ownB_shift hO hi (by omega) X) hbb, setCells_below hbb _ _ _ _ (setCells_below hbb _ _ _ _ hb.drew), fun k hk hkb => ?_, fun k hk => Or.inl hk, by rw [setCells_size, setCells_size]; exact Nat.le_refl _⟩
      have hkb' : k ≠ b := fun e => hkb (by rw [e]; rfl)
      rw [setCells_else b k hkb', setCells_else b k hkb']
      rfl
    · obtain rfl : c = n := by omega
      exact insert_tight w0 w q c i L X.data.toList vb hb ho hn hlt hm hx0 hvb
  · obtain rfl : i = n := by omega
    have hX : ∀ W, Below w.heap.size w W → Rs strE W (some ⟨vb, 0, none⟩) [X.data.toList] := fun W hW _ => ⟨vb, 0, rfl, Nat.lt_of_lt_of_le hvb hW.size, fun j hj => by
      rw [Nat.zero_add, hW.cell (p := ⟨vb, j, none⟩) hvb, hx0 j (by simpa using hj), flat_one1]⟩
    have hic : i ≤ c := by
      obtain ⟨q0, c0, e0, h1, -⟩ := OwnR.rowO ho
      injection e0 with e1 e2 e3
      omega
    have s1 : ∀ W, (Instr.slice 22 (.slice q i c) (some (.int .i64 (i : Int))) none none).run Tryd.prog W = .ok (.slice (RowG.partAt strE q c i) (i - i) (c - i)) W := fun W => sl_from strE q i c i hi hic W
    have hl1 : (L ++ [X.data.toList]).length = i + 1 := by rw [List.length_append, hn]; rfl
    have HH : ∃ q1 c1 w1, (∀ ty, (Builtin.append_ #[22, 22] ty #[.slice q i c, .slice (some ⟨vb, 0, none⟩) 1 1]).run Tryd.prog w = .ok (.slice q1 (i + 1) c1) w1) ∧ OwnR strE w0.heap.size w1 (.slice q1 (i + 1) c1) (L.take i ++ X.data.toList :: L.drop i) ∧ Below w0.heap.size w0 w1 ∧ (∀ k, k < w.heap.size → some k ≠ (Value.slice q i c).ownBlock → w1.heap[k]? = w.heap[k]?) ∧ (∀ k, (Value.slice q1 (i + 1) c1).ownBlock = some k → (Value.slice q i c).ownBlock = some k ∨ w.heap.size ≤ k) ∧ w.heap.size ≤ w1.heap.size := by
      have e : L.take i ++ X.data.toList :: L.drop i = L ++ [X.data.toList] := by rw [← hn, List.take_length, List.drop_length]
      rw [e]
      rcases ho.2 with ⟨h1, h2⟩ | ⟨g, cap, cur, h1, h2, h3, h4, h5, h6, h7⟩
      · have ho2 : OwnR strE w.heap.size w (.slice q i c) L := ⟨ho.1, Or.inl ⟨h1, h2⟩⟩
        obtain ⟨v1, w1, hr1, ho1, hg1⟩ := run_append_any strE w 29 (.slice q i c) L ho2 ⟨vb, 0, none⟩ [X.data.toList] 1 1 rfl (hX w (Below.refl _ _)) (by omega) (Nat.le_refl _)
        obtain ⟨q1, c1, rfl, -⟩ := OwnR.rowO ho1
        rw [hl1] at hr1 ho1
        exact ⟨q1, c1, w1, fun ty => hr1, ho1.low hb.size, hb.grown hg1 hb.size (own_base_r ho), hg1.block, fun k hk => Or.inr (own_base_r ho1 k hk), hg1.size⟩
      · injection h1 with h1a h1b h1c
        subst h1a h1c
        unfold maxLen at h5
        have hO : OwnB strE w g i c L := ⟨hn, hic, cur, h3, by omega, h6, by rw [← h7, ← hn]⟩
        obtain ⟨g', cap', w1, hr1, ho1, hg, hk1, hs1, hB1⟩ := run_append_two (E := strE) 29 hO ⟨vb, 0, none⟩ [X.data.toList] 1 1 rfl (hX w (Below.refl _ _)) (by omega)
        refine ⟨_, cap', w1, fun ty => hr1, ownB_ownR ho1 ?_, hB1 _ _ hb h2 hb.size, fun k hk hne => hk1 k hk (fun e => hne (by rw [e]; rfl)), fun k hk => ?_, hs1⟩
        · rcases hg with rfl | rfl
          · exact h2
          · exact hb.size
        · injection hk with hk
          subst hk
          rcases hg with rfl | rfl
          · exact Or.inl rfl
          · exact Or.inr (Nat.le_refl _)
    obtain ⟨q1, c1, w1, hr1, HE, HB⟩ := HH
    have H1 := Lib.hid hr1
    have HE := Lib.hid HE
    have HB := Lib.hid HB
    clear hX hx hx0 hvb ho hb hn hr1 hl1 hne hic
    go_enter Tryd.func48, Tryd.ntmps48
    go_wp2_with (at_builtin; refine Lib.wpList_append_run _ rfl _ _ _ _ rfl _ _ rfl rfl _ _ (H1.out _) ?_)
    go_ret
    exact ⟨q1, c1, rfl, HE.out, HB.out.1, HB.out.2.1, HB.out.2.2⟩
theorem str_of (l : List UInt8) : ∃ S : ByteArray, S.data.toList = l := ⟨⟨l.toArray⟩, rfl⟩
/-- Where a text stands: halving comes to that, where the texts rise. -/
theorem bs_pos {L : List (List UInt8)} {n : Nat} (hn : L.length = n) (hu : rises L) (s : List UInt8) (f : Nat → List UInt8) (hf : ∀ j (h : j < L.length), f j = L[j]) (hg : ∀ j, n ≤ j → bytesLess (f j) s = false) :
    Lib.bsGo (fun t => bytesLess (f t) s) n 0 n = posS L s := by
  subst hn
  refine Lib.bsGo_spec _ (posS L s) (fun t ht => ?_) (fun t ht => ?_) _ _ _ (by omega) (Nat.zero_le _) (posS_le s L)
  · have h1 : t < L.length := Nat.lt_of_lt_of_le ht (posS_le s L)
    show bytesLess (f t) s = true
    rw [hf t h1]
    exact (lt_posS s hu t h1).2 ht
  · show bytesLess (f t) s = false
    rcases Nat.lt_or_ge t L.length with h1 | h1
    · rw [hf t h1]
      rcases h2 : bytesLess L[t] s with _ | _
      · rfl
      · have := (lt_posS s hu t h1).1 h2
        omega
    · exact hg t h1
theorem drewN_bl (w : World) (k : Nat) : Below w.heap.size w (w.drewN k) := ⟨rfl, rfl, rfl, Nat.le_refl _, fun _ _ => rfl⟩
theorem search_any (q : Option Addr) (L : List (List UInt8)) (n c : Nat) (X : ByteArray) (w : World) (hn : L.length = n) (hS : Rs strE w q L) (hu : rises L) (hm : n ≤ 1048576) :
    Calls Tryd.prog 45 #[.slice q n c, .string X] w fun e w' => e = .returned (.tuple #[.int .i64 (posS L X.data.toList : Nat), .bool (hasS L X.data.toList)]) ∧ Below w.heap.size w w' := by
  rcases Nat.eq_zero_or_pos n with h0 | h0
  · subst h0
    obtain rfl : L = [] := List.eq_nil_of_length_eq_zero hn
    refine (Any2.slices_BinarySearch_string_empty Tryd.laysTwo26 q c X w).mono ?_
    rintro e w' ⟨rfl, rfl⟩
    exact ⟨rfl, Below.refl _ _⟩
  · obtain ⟨b, off, rfl, hbl, hc⟩ := hS (by omega)
    -- behind the row: a text that is not less
    have hS2 : ∀ j (h : j < L.length), ((if h : j < L.length then (⟨L[j].toArray⟩ : ByteArray) else X).toList) = L[j] := fun j h => by rw [dif_pos h, ByteArray.toList_eq]
    refine (Any2.slices_BinarySearch_string Tryd.laysTwo26 b off n c (fun j => if h : j < L.length then ⟨L[j].toArray⟩ else X) X w (by omega) (fun j hj => ?_)).mono ?_
    · have hj' : j < L.length := by omega
      have hj2 : j < L.length * strE.sz := by rw [sz_one, Nat.mul_one]; exact hj'
      rw [hc j hj2, flat_strs, List.getElem?_map, List.getElem?_eq_getElem hj', dif_pos hj']
      rfl
    · have e := bs_pos hn hu X.toList (fun t => (if h : t < L.length then (⟨L[t].toArray⟩ : ByteArray) else X).toList) hS2 (fun j hj => by
        show bytesLess (if h : j < L.length then (⟨L[j].toArray⟩ : ByteArray) else X).toList X.toList = false
        rw [dif_neg (by omega)]
        exact less_irrefl _)
      rw [e]
      have e7 : decide (posS L X.toList < n ∧ (if h : posS L X.toList < L.length then (⟨L[posS L X.toList].toArray⟩ : ByteArray) else X) = X) = hasS L X.data.toList := by
        rw [ByteArray.toList_eq]
        rcases pos_has X.data.toList hu with ⟨h1, h2, h3, h4⟩ | ⟨h1, h2, h3⟩
        · rw [h1]
          refine decide_eq_true ⟨by omega, ?_⟩
          rw [dif_pos h3]
          have e5 : (⟨L[posS L X.data.toList].toArray⟩ : ByteArray) = ⟨X.data.toList.toArray⟩ := by rw [h4]
          rw [e5, self_str]
        · rw [h1]
          refine decide_eq_false ?_
          rintro ⟨h4, h5⟩
          rw [dif_pos (by omega)] at h5
          refine h3 (by omega) ?_
          have e6 := congrArg (fun (z : ByteArray) => z.data.toList) h5
          exact e6
      rw [e7, ByteArray.toList_eq]
      rintro e' w' ⟨rfl, k, rfl⟩
      exact ⟨rfl, drewN_bl w k⟩

end Go.Proofs.YtmdkegamfjkfbaaDoor.SetM
