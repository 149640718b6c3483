/-
  The landed code of layer 13: slices.Insert and slices.Delete at rows of pairs.
-/
import Derived.Test.YtjikppjlkicgpaaDoorOwnIn
import Derived.Test.YtjikppjlkicgpaaDoorValRowz
import Derived.Shelf.Spec.SlicesInsert
import Derived.Deep.RegionLaw
import Derived.Lib.Hide
namespace Go.Proofs.YtjikppjlkicgpaaDoor.HasM
open Go.RowKit Kit StrT RowG BOrd ValT
set_option linter.unusedVariables false
set_option maxRecDepth 100000
/-- An append of which the run is known, as one step of a region that draws. -/
theorem step_append_runI {P : Program} {ops : Array Oper} {o : Oper} {a : Act} {w : World} {K : Act → World → Prop} {Q : Exit → Act → World → Prop} {F : Prop}
    (hg : o.guard = none) (d x : Operand) (dT sT : TypeId) (hop : o.op = Op.call { callee := Callee.builtin Builtin.append, args := #[d, x], argTypes := #[dT, sT] })
    (v u : Value) (hd : a.eval d = v) (hx : a.eval x = u) {v' : Value} {w' : World} (hr : (Builtin.append_ #[dT, sT] o.type #[v, u]).run P w = .ok v' w') (hK : K (a.put o.dst v') w') :
    if Region.wanted o (yielded ops a.tmps) = true then Oper.wp P o a w K Q else F := by
  rw [if_pos (by simp [Region.wanted, hg])]
  exact Lib.wp_append_run w d x dT sT hop v u hd hx v' w' hr hK

theorem at_off (E : Enc Pr) (g c lo : Nat) (h : c ≠ lo) : RowG.partAt E (some ⟨g, 0, none⟩) c lo = some ⟨g, lo * E.sz, none⟩ := by
  unfold RowG.partAt
  rw [if_neg h]
  show some (Addr.add ⟨g, 0, none⟩ (lo * E.sz)) = _
  rw [Addr.add_lit, Nat.zero_add]
set_option maxHeartbeats 8000000 in
theorem insert_any (w0 w : World) (q : Option Addr) (n i : Nat) (L : List Pr) (x : Pr) (vb : Nat) (hb : Below w0.heap.size w0 w) (ho : OwnR prE w0.heap.size w (.slice q n n) L) (hn : L.length = n) (hi : i ≤ n) (hm : n ≤ 1048576) (hx : ∀ j, j < prE.sz → w.cell? ⟨vb, j, none⟩ = (prE.enc x)[j]?) (hvb : vb < w.heap.size) :
    Calls Tryd.prog 54 #[.slice q n n, .int .i64 (i : Int), .slice (some ⟨vb, 0, none⟩) 1 1] w fun e w' => ∃ q' c', e = .returned (.slice q' (n + 1) c') ∧ OwnR prE w0.heap.size w' (.slice q' (n + 1) c') (L.take i ++ x :: L.drop i) ∧ Below w0.heap.size w0 w' ∧ ∀ k, k < w.heap.size → some k ≠ (Value.slice q n n).ownBlock → w'.heap[k]? = w.heap[k]? := by
  have hX : ∀ W, Below w.heap.size w W → Rs prE W (some ⟨vb, 0, none⟩) [x] := fun W hW _ => ⟨vb, 0, rfl, Nat.lt_of_lt_of_le hvb hW.size, fun j hj => by
    rw [Nat.zero_add, hW.cell (p := ⟨vb, j, none⟩) hvb, hx j (by simpa using hj), flat_one1]⟩
  have s1 : ∀ W, (Instr.slice 23 (.slice q n n) (some (.int .i64 (i : Int))) none none).run Tryd.prog W = .ok (.slice (RowG.partAt prE q n i) (n - i) (n - i)) W := fun W => sl_from prE q n n i hi (Nat.le_refl _) W
  rcases Nat.lt_or_ge i n with hlt | hge
  · -- in the midst: a new row
    obtain ⟨q0, c0, e0, h1, h2, h3, h4⟩ := OwnR.rowO ho
    injection e0 with e1 e2 e3
    clear e2
    subst e1
    rcases h4 with h4 | ⟨b, rfl, hbb, hO⟩
    · rw [h4] at hn
      simp at hn
      omega
    rw [hn] at hO
    subst e3
    have hR := hO.rs
    have hbl := hO.lt
    have hO0 := Lib.hid hO
    have hik : i + (n + 1 - i) = n + 1 := by omega
    obtain ⟨G, w1, hr1, hO1, hG, hB1⟩ := run_grow_in prE w 29 3 (by kernel_rfl) b 0 (L.take i) i (n + 1 - i) n (by rw [List.length_take]; omega) ((ownB_take hO i hi).rs) (by omega) (by omega) (by omega)
    rw [hik] at hr1 hG
    have hr1' : ∀ ty, (Builtin.append_ #[23, 3] ty #[.slice (some ⟨b, 0, none⟩) i n, .int .i64 ((n : Int) + 1 - (i : Int))]).run Tryd.prog w = .ok (.slice (some ⟨w.heap.size, 0, none⟩) (n + 1) G) w1 := fun ty => by
      rw [show (n : Int) + 1 - (i : Int) = ((n + 1 - i : Nat) : Int) by omega]
      exact hr1
    obtain ⟨w2, hr2, hI2⟩ := run_copy_in (E := prE) 29 hO1 ⟨vb, 0, none⟩ [x] 1 1 (n + 1 - i) (G - i) (i * prE.sz) rfl rfl (hX w1 hB1) (by omega) (by omega)
    have hr2' : ∀ ty, (Builtin.copy_ #[23, 23] ty #[.slice (some ⟨w.heap.size, i * prE.sz, none⟩) (n + 1 - i) (G - i), .slice (some ⟨vb, 0, none⟩) 1 1]).run Tryd.prog w1 = .ok (goInt 1) w2 := fun ty => hr2
    have hB2 : Below w.heap.size w w2 := hI2.bl _ _ hB1 (Nat.le_refl _)
    have hRd : Rs prE w2.drew (some ⟨b, i * prE.sz, none⟩) (L.drop i) := by
      have := (hR.keep hB2).drop i (by omega) n (by omega)
      rw [at_off prE b n i (by omega)] at this
      exact this
    obtain ⟨w3, hr3, hI3⟩ := run_copy_in (E := prE) (w := w2.drew) 29 hI2.ow ⟨b, i * prE.sz, none⟩ (L.drop i) (n - i) (n - i) (n + 1 - (i + 1)) (G - (i + 1)) ((i + 1) * prE.sz) rfl (by rw [List.length_drop]; omega) hRd (by omega) (by omega)
    have hr3' : ∀ ty, (Builtin.copy_ #[23, 23] ty #[.slice (some ⟨w.heap.size, (i + 1) * prE.sz, none⟩) (n + 1 - (i + 1)) (G - (i + 1)), .slice (some ⟨b, i * prE.sz, none⟩) (n - i) (n - i)]).run Tryd.prog w2.drew = .ok (goInt ((n - i : Nat) : Int)) w3 := fun ty => hr3
    have hB3 : Below w.heap.size w w3 := hI3.bl _ _ hB2.drew (Nat.le_refl _)
    have HE := Lib.hid (show OwnR prE w0.heap.size w3 (.slice (some ⟨w.heap.size, 0, none⟩) (n + 1) G) (L.take i ++ x :: L.drop i) from by
      obtain ⟨g1, g2, cur, g3, g4, g5, g6⟩ := hI3.ow
      have e : L.take i ++ [x] ++ L.drop i = L.take i ++ x :: L.drop i := by simp
      have el : i + 1 + (n - i) = n + 1 := by omega
      rw [el] at g6
      rw [e] at g1 g6
      exact ⟨by rw [flat_len], Or.inr ⟨_, G, cur, by rw [g1, el], hb.size, g3, by rw [g1, el]; exact hG, by unfold maxLen; omega, g5, by rw [g1, el]; exact g6⟩⟩)
    have HB := Lib.hid (show Below w0.heap.size w0 w3 ∧ ∀ k, k < w.heap.size → some k ≠ (Value.slice (some ⟨b, 0, none⟩) n n).ownBlock → w3.heap[k]? = w.heap[k]? from ⟨hb.trans (hB3.mono hb.size), fun k hk _ => hB3.block k hk⟩)
    rw [at_off prE b n i (by omega)] at s1
    have s2 : ∀ W, (Instr.slice 23 (.slice (some ⟨b, 0, none⟩) n n) none (some (.int .i64 (i : Int))) none).run Tryd.prog W = .ok (.slice (some ⟨b, 0, none⟩) i n) W := fun W => sl_upto prE _ n n i hi W
    have s3 : ∀ W, (Instr.slice 23 (.slice (some ⟨w.heap.size, 0, none⟩) (n + 1) G) (some (.int .i64 (i : Int))) none none).run Tryd.prog W = .ok (.slice (some ⟨w.heap.size, i * prE.sz, none⟩) (n + 1 - i) (G - i)) W := fun W => by
      have := sl_from prE (some ⟨w.heap.size, 0, none⟩) (n + 1) G i (by omega) hG W
      rw [at_off prE _ G i (by omega)] at this
      exact this
    have s4 : ∀ W, (Instr.slice 23 (.slice (some ⟨w.heap.size, 0, none⟩) (n + 1) G) (some (.int .i64 ((i : Int) + 1))) none none).run Tryd.prog W = .ok (.slice (some ⟨w.heap.size, (i + 1) * prE.sz, none⟩) (n + 1 - (i + 1)) (G - (i + 1))) W := fun W => by
      have := sl_from prE (some ⟨w.heap.size, 0, none⟩) (n + 1) G (i + 1) (by omega) hG W
      rw [at_off prE _ G (i + 1) (by omega)] at this
      exact this
    have H1 := Lib.hid hr1'
    have H2 := Lib.hid hr2'
    have H3 := Lib.hid hr3'
    have t1 : ((i : Int) == (n : Int)) = false := by rw [beq_eq_false_iff_ne]; omega
    have t2 : ¬ (i : Int) = (n : Int) := by omega
    have b1 : (0 : Int) ≤ (i : Int) + 1 := by omega
    have b2 : (i : Int) ≤ (n : Int) := by omega
    have HW := Lib.hid (show IntKind.i64.wrap ((i : Int) + 1) = (i : Int) + 1 from IntWalk.i64_in _ (by omega))
    generalize prE.sz = sz at s1 s3 s4 H2 H3
    obtain ⟨o1, ho1⟩ : ∃ o, o = i * sz := ⟨_, rfl⟩
    obtain ⟨o2, ho2⟩ : ∃ o, o = (i + 1) * sz := ⟨_, rfl⟩
    obtain ⟨m1, hm1⟩ : ∃ o, o = n - i := ⟨_, rfl⟩
    obtain ⟨m2, hm2⟩ : ∃ o, o = n + 1 - i := ⟨_, rfl⟩
    obtain ⟨m3, hm3⟩ : ∃ o, o = n + 1 - (i + 1) := ⟨_, rfl⟩
    obtain ⟨k1, hk1⟩ : ∃ o, o = G - i := ⟨_, rfl⟩
    obtain ⟨k2, hk2⟩ : ∃ o, o = G - (i + 1) := ⟨_, rfl⟩
    rw [← ho1, ← hm1] at s1
    rw [← ho1, ← hm2, ← hk1] at s3 H2
    rw [← ho2, ← hm3, ← hk2] at s4
    rw [← ho2, ← hm3, ← hk2, ← ho1, ← hm1] at H3
    generalize w.heap.size = g at s3 s4 H1 H2 H3 HE HB ⊢
    clear ho1 ho2 hm1 hm2 hm3 hk1 hk2 hr1 hr1' hr2 hr2' hr3 hr3' hO1 hI2 hI3 hRd hB1 hB2 hB3 hG hik hO hO0 hR hX hx hn ho hb hbb hvb h1 h2 h3 hi
    go_enter Tryd.func54, Tryd.ntmps54
    go_wp2_with (first
      | (at_builtin; refine Lib.wpList_append_run _ rfl _ _ _ _ rfl _ _ rfl rfl _ _ (H1.out _) ?_)
      | (with_reducible refine wpList_copy_runI _ rfl (.tmp 43) (.tmp 44) 23 23 rfl _ _ rfl rfl (H2.out _) ?_))
    have hw := HW.out
    go_region_law (refine step_copy_runI rfl _ _ 23 23 rfl (.slice (some ⟨g, o2, none⟩) m3 k2) (.slice (some ⟨b, o1, none⟩) m1 m1) (by simp [Act.eval, Act.put]) (by simp [Act.eval, Act.put]) (H3.out 3) ?_)
    clear hw
    go_wp2_with fail
    go_ret
    exact ⟨_, _, rfl, HE.out, HB.out.1, HB.out.2⟩
  · -- at the end
    obtain rfl : i = n := by omega
    obtain ⟨v1, w1, hr1, ho1, hg1⟩ := run_append_any prE w 29 (.slice q i i) L ho ⟨vb, 0, none⟩ [x] 1 1 rfl (hX w (Below.refl _ _)) (by omega) hb.size
    have hl1 : (L ++ [x]).length = i + 1 := by rw [List.length_append, hn]; rfl
    obtain ⟨q1, c1, rfl, -⟩ := OwnR.rowO ho1
    rw [hl1] at hr1 ho1
    have H1 := Lib.hid (fun ty => (show (Builtin.append_ #[23, 23] ty #[.slice q i i, .slice (some ⟨vb, 0, none⟩) 1 1]).run Tryd.prog w = .ok (.slice q1 (i + 1) c1) w1 from hr1))
    have HE := Lib.hid (show OwnR prE w0.heap.size w1 (.slice q1 (i + 1) c1) (L.take i ++ x :: L.drop i) from by
      have e : L.take i ++ x :: L.drop i = L ++ [x] := by rw [← hn, List.take_length, List.drop_length]
      rw [e]
      exact ho1)
    have HB := Lib.hid (show Below w0.heap.size w0 w1 ∧ ∀ k, k < w.heap.size → some k ≠ (Value.slice q i i).ownBlock → w1.heap[k]? = w.heap[k]? from ⟨hb.grown hg1 hb.size (own_base_r ho), hg1.block⟩)
    clear hX hx hvb ho hb hn hr1 ho1 hg1 hl1
    go_enter Tryd.func54, Tryd.ntmps54
    go_wp2_with (at_builtin; refine Lib.wpList_append_run _ rfl _ _ _ _ rfl _ _ rfl rfl _ _ (H1.out _) ?_)
    go_ret
    exact ⟨q1, c1, rfl, HE.out, HB.out.1, HB.out.2⟩
set_option maxHeartbeats 8000000 in
theorem delete_any (w0 w : World) (q : Option Addr) (n c i : Nat) (L : List Pr) (hb : Below w0.heap.size w0 w) (ho : OwnR prE w0.heap.size w (.slice q n c) L) (hn : L.length = n) (hi : i < n) (hm : n ≤ 1048576) :
    Calls Tryd.prog 47 #[.slice q n c, .int .i64 (i : Int), .int .i64 ((i : Int) + 1)] w fun e w' => e = .returned (.slice q (n - 1) c) ∧ OwnR prE w0.heap.size w' (.slice q (n - 1) c) (L.take i ++ L.drop (i + 1)) ∧ Below w0.heap.size w0 w' ∧ ∀ k, some k ≠ (Value.slice q n c).ownBlock → w'.heap[k]? = w.heap[k]? := by
  obtain ⟨q0, c0, e0, h1, h2, h3, h4⟩ := OwnR.rowO ho
  injection e0 with e1 e2 e3
  clear e2
  subst e1
  rcases h4 with h4 | ⟨b, rfl, hbb, hO⟩
  · rw [h4] at hn
    simp at hn
    omega
  subst e3
  rw [hn] at hO h1
  have hnc : n ≤ c := h1
  have hR := hO.rs
  obtain ⟨A1, hA1, hRd⟩ : ∃ A1, RowG.partAt prE (some ⟨b, 0, none⟩) c (i + 1) = some A1 ∧ Rs prE w.drew (some A1) (L.drop (i + 1)) := by
    by_cases hc : c = i + 1
    · refine ⟨⟨b, 0, none⟩, by unfold RowG.partAt; rw [if_pos hc], fun h0 => ?_⟩
      rw [List.length_drop] at h0
      omega
    · refine ⟨⟨b, (i + 1) * prE.sz, none⟩, at_off prE b c (i + 1) hc, ?_⟩
      have := hR.drop (i + 1) (by omega) c (by omega)
      rw [at_off prE b c (i + 1) hc] at this
      exact this
  obtain ⟨w1, hr1, hI1⟩ := run_append_in (E := prE) (w := w.drew) 29 (ownB_take hO i (by omega)) A1 (L.drop (i + 1)) (n - (i + 1)) (c - (i + 1)) (by rw [List.length_drop]; omega) hRd (by omega)
  have el : i + (n - (i + 1)) = n - 1 := by omega
  rw [el] at hr1 hI1
  have hr1' : ∀ ty, (Builtin.append_ #[23, 23] ty #[.slice (some ⟨b, 0, none⟩) i c, .slice (some A1) (n - (i + 1)) (c - (i + 1))]).run Tryd.prog w.drew = .ok (.slice (some ⟨b, 0, none⟩) (n - 1) c) w1 := fun ty => hr1
  obtain ⟨w2, hr2, hI2⟩ := run_clear_in (E := prE) 29 hI1.ow (by intro u hu; simp [prE, Value.cells] at hu; rcases hu with rfl | rfl <;> rfl) (n - 1) 1 (c - (n - 1)) ((n - 1) * prE.sz) rfl (Nat.le_refl _) (by omega)
  have hr2' : ∀ ty, (Builtin.clear_ #[23] ty #[.slice (some ⟨b, (n - 1) * prE.sz, none⟩) 1 (c - (n - 1))]).run Tryd.prog w1 = .ok (.tuple #[]) w2 := fun ty => hr2
  have HE := Lib.hid (show OwnR prE w0.heap.size w2 (.slice (some ⟨b, 0, none⟩) (n - 1) c) (L.take i ++ L.drop (i + 1)) from by
    obtain ⟨g1, g2, cur, g3, g4, g5, g6⟩ := hI2.ow
    exact ⟨by rw [flat_len], Or.inr ⟨_, c, cur, by rw [g1], hbb, g3, by rw [g1]; exact g2, by unfold maxLen; omega, g5, by rw [g1]; exact g6⟩⟩)
  have HB := Lib.hid (show Below w0.heap.size w0 w2 ∧ ∀ k, some k ≠ (Value.slice (some ⟨b, 0, none⟩) n c).ownBlock → w2.heap[k]? = w.heap[k]? from ⟨hI2.bl _ _ (hI1.bl _ _ hb.drew hbb) hbb, fun k hk => by
    have hk' : k ≠ b := fun e => hk (by rw [e]; rfl)
    rw [hI2.ot k hk', hI1.ot k hk']
    rfl⟩)
  have s0 : ∀ W, (Instr.slice 23 (.slice (some ⟨b, 0, none⟩) n c) (some (.int .i64 (i : Int))) (some (.int .i64 ((i : Int) + 1))) (some (.int .i64 (n : Int)))).run Tryd.prog W = .ok (.slice (RowG.partAt prE (some ⟨b, 0, none⟩) n i) 1 (n - i)) W := fun W => by
    rw [run_slice_lhm (P := Tryd.prog) W 23 (some ⟨b, 0, none⟩) n c (elemE prE) .i64 .i64 .i64 (i : Int) ((i : Int) + 1) (n : Int) (by omega) (by omega) (by omega) (by omega), show (Go.sizeOf (Tryd.prog.elem 23)).run Tryd.prog W = .ok prE.sz W from sizeE prE W]
    have e9 : ((i : Int) + 1 - (i : Int)).toNat = 1 := by omega
    simp [Result.andThen, sliced, RowG.partAt]
  have s1 : ∀ W, (Instr.slice 23 (.slice (some ⟨b, 0, none⟩) n c) none (some (.int .i64 (i : Int))) none).run Tryd.prog W = .ok (.slice (some ⟨b, 0, none⟩) i c) W := fun W => sl_upto prE _ n c i (by omega) W
  have s2 : ∀ W, (Instr.slice 23 (.slice (some ⟨b, 0, none⟩) n c) (some (.int .i64 ((i : Int) + 1))) none none).run Tryd.prog W = .ok (.slice (some A1) (n - (i + 1)) (c - (i + 1))) W := fun W => by
    have := sl_from prE (some ⟨b, 0, none⟩) n c (i + 1) (by omega) (by omega) W
    rw [hA1] at this
    exact this
  have s3 : ∀ W, (Instr.slice 23 (.slice (some ⟨b, 0, none⟩) (n - 1) c) (some (.int .i64 (((n - 1 : Nat) : Int)))) (some (.int .i64 (n : Int))) none).run Tryd.prog W = .ok (.slice (some ⟨b, (n - 1) * prE.sz, none⟩) 1 (c - (n - 1))) W := fun W => by
    have := sl_mid prE (some ⟨b, 0, none⟩) (n - 1) c (n - 1) n (by omega) (by omega) W
    rw [at_off prE b c (n - 1) (by omega), show n - (n - 1) = 1 by omega] at this
    exact this
  have H1 := Lib.hid hr1'
  have H2 := Lib.hid hr2'
  have t1 : ((i : Int) == (i : Int) + 1) = false := by rw [beq_eq_false_iff_ne]; omega
  have t2 : ¬ (i : Int) = (i : Int) + 1 := by omega
  obtain ⟨k, hk⟩ : ∃ k, k = n - 1 := ⟨_, rfl⟩
  obtain ⟨m1, hm1⟩ : ∃ k, k = n - (i + 1) := ⟨_, rfl⟩
  obtain ⟨m2, hm2⟩ : ∃ k, k = c - (i + 1) := ⟨_, rfl⟩
  obtain ⟨m3, hm3⟩ : ∃ k, k = RowG.partAt prE (some ⟨b, 0, none⟩) n i := ⟨_, rfl⟩
  obtain ⟨m4, hm4⟩ : ∃ k, k = n - i := ⟨_, rfl⟩
  obtain ⟨o1, ho1⟩ : ∃ o, o = (n - 1) * prE.sz := ⟨_, rfl⟩
  obtain ⟨m5, hm5⟩ : ∃ o, o = c - (n - 1) := ⟨_, rfl⟩
  rw [← hm3, ← hm4] at s0
  rw [← hm1, ← hm2] at s2 H1
  rw [← ho1, ← hm5] at s3 H2
  rw [← hk] at s3 H1 HE ⊢
  clear ho1 hk hm1 hm2 hm3 hm4 hm5 hr1 hr1' hr2 hr2' hI1 hI2 hRd hA1 hO hR hn ho hb hbb h1 h2 h3 el
  go_enter Tryd.func47, Tryd.ntmps47
  go_wp2_with fail
  go_region_law (refine step_append_runI rfl _ _ 23 23 rfl (.slice (some ⟨b, 0, none⟩) i c) (.slice (some A1) m1 m2) (by simp [Act.eval, Act.put]) (by simp [Act.eval, Act.put]) (H1.out _) ?_)
  have h2 := H2.out
  go_wp2_with fail
  go_ret
  exact ⟨rfl, HE.out, HB.out.1, HB.out.2⟩

end Go.Proofs.YtjikppjlkicgpaaDoor.HasM
