/-
  The document's own answers of layer 9 (package tipstaffref09): a value that is made to fit.
-/
import Derived.Test.YtbcjgkedlapmhaaRefVal6
import Derived.Test.YtbcjgkedlapmhaaRefVal3
import Derived.Deep.RegionLaw
import Derived.Deep.DeepCutAuto
import Derived.SliceStrings
import Derived.Laws.CopyOwn
import Derived.Lib.SlBytesConst
namespace Go.Proofs.Ytbcjgkedlapmhaa.RefV
open Go.RowKit Kit StrT RowG BOrd ValT
open Go.Op (bytesLess)
set_option linter.unusedVariables false
set_option maxRecDepth 100000

/-- The three blocks that 'Fit' makes: what it was given, its answer, what it makes. -/
structure FB (w W : World) (x z n : Array Value) : Prop where
  bx : W.heap[w.heap.size]? = some (.cells x 35 (0, 0))
  re : W.heap[w.heap.size + 1]? = some (.cells z 35 (0, 0))
  ou : W.heap[w.heap.size + 1 + 1]? = some (.cells n 35 (0, 0))
  bl : Below w.heap.size w W
  sz : w.heap.size + 1 + 1 < W.heap.size
theorem FB.new (w : World) (x z n : Array Value) : FB w (((w.alloc (.cells x 35)).alloc (.cells z 35)).alloc (.cells n 35)) x z n where
  bx := by
    rw [Below.heap_alloc _ _ _ (by simp; omega), Below.heap_alloc _ _ _ (by simp)]
    exact heap_alloc_last w _
  re := by
    rw [Below.heap_alloc _ _ _ (by simp)]
    have h := heap_alloc_last (w.alloc (.cells x 35)) (.cells z 35)
    simpa using h
  ou := by
    have h := heap_alloc_last ((w.alloc (.cells x 35)).alloc (.cells z 35)) (.cells n 35)
    simpa using h
  bl := ((bel_new w _).alloc (by simp) _).alloc (by simp; omega) _
  sz := by simp
theorem FB.keep {w W W' : World} {x z n : Array Value} (h : FB w W x z n) (hb : Below W.heap.size W W') : FB w W' x z n where
  bx := by rw [hb.block _ (by have := h.sz; omega)]; exact h.bx
  re := by rw [hb.block _ (by have := h.sz; omega)]; exact h.re
  ou := by rw [hb.block _ h.sz]; exact h.ou
  bl := h.bl.trans (hb.mono (by have := h.sz; omega))
  sz := Nat.lt_of_lt_of_le h.sz hb.size
theorem FB.put {w W : World} {x z n : Array Value} (h : FB w W x z n) (j : Nat) (v : Value) : FB w (W.setCell ⟨w.heap.size + 1 + 1, j, none⟩ v) x z (n.setIfInBounds j v) where
  bx := by rw [heap_setCell_other _ _ _ _ (by show _ ≠ w.heap.size + 1 + 1; omega)]; exact h.bx
  re := by rw [heap_setCell_other _ _ _ _ (by show _ ≠ w.heap.size + 1 + 1; omega)]; exact h.re
  ou := heap_setCell_same _ _ _ _ _ _ h.ou
  bl := h.bl.setCell (by show _ ≤ w.heap.size + 1 + 1; omega) v
  sz := by simpa using h.sz
theorem ansR_put {α : Type} {E : Enc α} {base : Nat} {W : World} {v : Value} {L : List α} {a : Addr} {u : Value} (h : AnsR E base W v L) (ha : a.block < base) : AnsR E base (W.setCell a u) v L :=
  h.high (fun k hk => heap_setCell_other _ _ _ _ (by omega)) (by simp)
theorem ansR_row {α : Type} {E : Enc α} {base g : Nat} {W : World} {v : Value} {L : List α} {cs : Array Value} (h : AnsR E base W v L) (ha : g < base) : AnsR E base (W.setRow g cs) v L :=
  h.high (fun k hk => setRow_other _ _ _ _ (by omega)) (by simp)
def ValP (d : V) (w : World) (e : Ending) (w' : World) : Prop := ∃ v, e = .returned v ∧ VAns w.heap.size w' v d ∧ Below w.heap.size w w'
/-- The end: a value is stored as the answer. -/
theorem fit_ends {w W : World} {x z n : Array Value} {S : ByteArray} {vl vh vz : Value} {d : V} {base : Nat} {k : Int} (hbase : w.heap.size + 1 < base) (h : FB w W x z n) (hk : k = (d.kind : Int)) (hs : S.data.toList = d.s) (h1 : AnsR strE base W vl d.l) (h2 : AnsR prE base W vh d.h) (h3 : AnsR mkE base W vz d.z) :
    ValP d w (.returned (.agg #[.int .u8 k, .string S, vl, vh, vz])) (W.setRow (w.heap.size + 1) #[.int .u8 k, .string S, vl, vh, vz]) := by
  subst hk
  exact ⟨_, rfl, ⟨S, vl, vh, vz, rfl, hs, (ansR_row h1 hbase).low (by omega), (ansR_row h2 hbase).low (by omega), (ansR_row h3 hbase).low (by omega)⟩, below_setRow h.bl (by omega) _⟩
theorem extract_take (s : ByteArray) (a : Nat) : (s.extract 0 a).data.toList = s.data.toList.take a := by
  rw [ByteArray.data_extract, Array.toList_extract, List.extract_eq_take_drop]
  simp
theorem min_cast (n m : Nat) : min (n : Int) (m : Int) = ((min n m : Nat) : Int) := by omega

set_option maxHeartbeats 8000000 in
theorem rfit_1 (k : Int) (S : ByteArray) (ql : Option Addr) (nl cl : Nat) (qh : Option Addr) (nh ch : Nat) (qz : Option Addr) (nz cz : Nat) (d : V) (w : World) (H : VArg w k S ql nl cl qh nh ch qz nz cz d) (hS : S.size ≤ 140737488351232) (hk : d.kind % 6 = 1) :
    Calls Try.prog 25 #[.agg #[.int .u8 k, .string S, .slice ql nl cl, .slice qh nh ch, .slice qz nz cz]] w (ValP (fitV d) w) := by
  have HV := Lib.hid H
  have HK := Lib.hid hk
  have HFB := Lib.hid (FB.new w #[.int .u8 k, .string S, .slice ql nl cl, .slice qh nh ch, .slice qz nz cz] #[.int .u8 0, .string ⟨#[]⟩, .slice none 0 0, .slice none 0 0, .slice none 0 0] #[.int .u8 0, .string ⟨#[]⟩, .slice none 0 0, .slice none 0 0, .slice none 0 0])
  obtain ⟨m, hm⟩ : ∃ m, m = min nl 8 := ⟨_, rfl⟩
  have hmin : min (nl : Int) 8 = (m : Int) := by omega
  have hmc : m ≤ cl := by have := H.bl; omega
  have hml := H.ml
  have hfl := Nat.le_trans H.bl H.ml
  have hfh := Nat.le_trans H.bh H.mh
  have hfz := Nat.le_trans H.bz H.mz
  have x1 : (k % 6 == 1) = true := by rw [H.ek, beq_iff_eq]; omega
  have x2 : (k % 6 == 2) = false := by rw [H.ek, beq_eq_false_iff_ne]; omega
  have x3 : (k % 6 == 3) = false := by rw [H.ek, beq_eq_false_iff_ne]; omega
  have x4 : (k % 6 == 4) = false := by rw [H.ek, beq_eq_false_iff_ne]; omega
  have x5 : (k % 6 == 5) = false := by rw [H.ek, beq_eq_false_iff_ne]; omega
  have hk0 : 0 ≤ k := by rw [H.ek]; omega
  have hk1 : k ≤ 255 := by rw [H.ek]; have := H.kb; omega
  have HM := Lib.hid hm
  obtain ⟨m2, hm2⟩ : ∃ m2, m2 = min S.size 40 := ⟨_, rfl⟩
  have hmin2 : min (S.size : Int) 40 = (m2 : Int) := by omega
  obtain ⟨T, hT⟩ : ∃ T, T = S.extract 0 m2 := ⟨_, rfl⟩
  have s1 : ∀ W, (Instr.slice 9 (.string S) none (some (.int .i64 (m2 : Int))) none).run Try.prog W = .ok (.string T) W := fun W => by
    have h := run_slice_string_h (P := Try.prog) W 9 S Try.underlying9 .i64 (m2 : Int) (by omega) (by omega)
    rw [show ((m2 : Nat) : Int).toNat = m2 from rfl, ← hT] at h
    exact h
  have HT := Lib.hid (show T.data.toList = d.s.take 40 by
    rw [hT, extract_take, H.es, hm2]
    have hl : S.size = d.s.length := by rw [← H.es]; simp
    rcases Nat.le_total S.size 40 with h | h
    · rw [Nat.min_eq_left h, List.take_of_length_le (by omega), List.take_of_length_le (by omega)]
    · rw [Nat.min_eq_right h])
  have HD := Lib.hid (show fitV d = ⟨1, d.s.take 40, [], [], []⟩ by unfold fitV; rw [if_pos hk])
  have HF9 := HFB
  have HCs9 := Lib.hid (show (Try.prog.info? 35).map (·.size) = some (#[.int .u8 1, .string T, .slice none 0 0, .slice none 0 0, .slice none 0 0] : Array Value).size from val_size)
  have HOn9 := Lib.hid (show (#[.int .u8 1, .string T, .slice none 0 0, .slice none 0 0, .slice none 0 0] : Array Value).all (·.oneCell') = true by simp [Value.oneCell'])
  have HE := Lib.hid (show ValP (fitV d) w _ _ by
    rw [HD.out]
    exact fit_ends (S := T) (k := 1) (d := ⟨1, d.s.take 40, [], [], []⟩) (base := w.heap.size + 1 + 1) (Nat.lt_succ_self _) HFB.out rfl HT.out (ansR_nil strE _ _) (ansR_nil prE _ _) (ansR_nil mkE _ _))
  clear H hm hm2 hT hk
  go_enter Try.func25, Try.ntmps25
  go_wp2_with (with_reducible refine wpList_store_row rfl 35 (.tmp 2) (.tmp 28) rfl (w.heap.size + 1) #[.int .u8 1, .string T, .slice none 0 0, .slice none 0 0, .slice none 0 0] rfl rfl 35 _ HF9.out.re HCs9.out rfl HOn9.out ?_)
  exact bodyPost_ret (results_cell_row rfl _ _ (w.heap.size + 1) 35 #[.int .u8 1, .string T, .slice none 0 0, .slice none 0 0, .slice none 0 0] (0, 0) _ rfl (setRow_heap _ (w.heap.size + 1) _ _ _ _ HF9.out.re) Try.underlying35 rfl HCs9.out) rfl HE.out

set_option maxHeartbeats 8000000 in
theorem rfit_0 (k : Int) (S : ByteArray) (ql : Option Addr) (nl cl : Nat) (qh : Option Addr) (nh ch : Nat) (qz : Option Addr) (nz cz : Nat) (d : V) (w : World) (H : VArg w k S ql nl cl qh nh ch qz nz cz d) (hS : S.size ≤ 140737488351232) (hk : d.kind % 6 = 0) :
    Calls Try.prog 25 #[.agg #[.int .u8 k, .string S, .slice ql nl cl, .slice qh nh ch, .slice qz nz cz]] w (ValP (fitV d) w) := by
  have HV := Lib.hid H
  have HK := Lib.hid hk
  have HFB := Lib.hid (FB.new w #[.int .u8 k, .string S, .slice ql nl cl, .slice qh nh ch, .slice qz nz cz] #[.int .u8 0, .string ⟨#[]⟩, .slice none 0 0, .slice none 0 0, .slice none 0 0] #[.int .u8 0, .string ⟨#[]⟩, .slice none 0 0, .slice none 0 0, .slice none 0 0])
  obtain ⟨m, hm⟩ : ∃ m, m = min nl 8 := ⟨_, rfl⟩
  have hmin : min (nl : Int) 8 = (m : Int) := by omega
  have hmc : m ≤ cl := by have := H.bl; omega
  have hml := H.ml
  have hfl := Nat.le_trans H.bl H.ml
  have hfh := Nat.le_trans H.bh H.mh
  have hfz := Nat.le_trans H.bz H.mz
  have x1 : (k % 6 == 1) = false := by rw [H.ek, beq_eq_false_iff_ne]; omega
  have x2 : (k % 6 == 2) = false := by rw [H.ek, beq_eq_false_iff_ne]; omega
  have x3 : (k % 6 == 3) = false := by rw [H.ek, beq_eq_false_iff_ne]; omega
  have x4 : (k % 6 == 4) = false := by rw [H.ek, beq_eq_false_iff_ne]; omega
  have x5 : (k % 6 == 5) = false := by rw [H.ek, beq_eq_false_iff_ne]; omega
  have hk0 : 0 ≤ k := by rw [H.ek]; omega
  have hk1 : k ≤ 255 := by rw [H.ek]; have := H.kb; omega
  have HM := Lib.hid hm
  have HD := Lib.hid (show fitV d = v0 by unfold fitV; rw [if_neg (by omega), if_neg (by omega), if_neg (by omega), if_neg (by omega), if_neg (by omega)])
  clear H hm hk
  go_enter Try.func25, Try.ntmps25
  go_upto_region 27 with fail
  generalize (((w.alloc _).alloc _).alloc _) = wt at HFB ⊢
  have HF := HFB
  have HA := Lib.hid (⟨ansR_nil strE (w.heap.size + 1 + 1 + 1) wt, ansR_nil prE (w.heap.size + 1 + 1 + 1) wt, ansR_nil mkE (w.heap.size + 1 + 1 + 1) wt⟩ : AnsR strE (w.heap.size + 1 + 1 + 1) wt (.slice none 0 0) [] ∧ AnsR prE (w.heap.size + 1 + 1 + 1) wt (.slice none 0 0) [] ∧ AnsR mkE (w.heap.size + 1 + 1 + 1) wt (.slice none 0 0) [])
  have HVI := Lib.hid (show VIn wt 0 ⟨#[]⟩ none 0 0 none 0 0 none 0 0 v0 from ⟨rfl, by decide, rfl, Rs.nil _ _ _, Rs.nil _ _ _, Rs.nil _ _ _, rfl, rfl, rfl, by omega, by omega, by omega, by omega, by omega, by omega, by omega, by omega, by omega, fun _ => rfl, fun _ => rfl, fun _ => rfl⟩)
  have HSz := Lib.hid (show sizeN v0 = 0 from rfl)
  have HCs := Lib.hid (show (Try.prog.info? 35).map (·.size) = some (#[.int .u8 0, .string ⟨#[]⟩, .slice none 0 0, .slice none 0 0, .slice none 0 0] : Array Value).size from val_size)
  have HOn := Lib.hid (show (#[.int .u8 0, .string ⟨#[]⟩, .slice none 0 0, .slice none 0 0, .slice none 0 0] : Array Value).all (·.oneCell') = true by simp [Value.oneCell'])
  have CS := Lib.hid (rsize 0 ⟨#[]⟩ none 0 0 none 0 0 none 0 0 v0 wt HVI.out)
  rw [HSz.out] at CS
  go_wp2_with (with_reducible refine wpList_load_row rfl 35 (.tmp 3) rfl (w.heap.size + 1 + 1) rfl 35 #[.int .u8 0, .string ⟨#[]⟩, .slice none 0 0, .slice none 0 0, .slice none 0 0] (0, 0) _ HF.out.ou Try.underlying35 rfl HCs.out ?_)
  with_reducible refine CS.out.mono ?_
  rintro e w9 ⟨rfl, hb9⟩
  have HF9 := Lib.hid (HF.out.keep hb9)
  have HA1 := Lib.hid (HA.out.1.keep hb9)
  have HA2 := Lib.hid (HA.out.2.1.keep hb9)
  have HA3 := Lib.hid (HA.out.2.2.keep hb9)
  clear hb9 HF HA CS
  have HCs9 := Lib.hid (show (Try.prog.info? 35).map (·.size) = some (#[.int .u8 0, .string ⟨#[]⟩, .slice none 0 0, .slice none 0 0, .slice none 0 0] : Array Value).size from val_size)
  have HOn9 := Lib.hid (show (#[.int .u8 0, .string ⟨#[]⟩, .slice none 0 0, .slice none 0 0, .slice none 0 0] : Array Value).all (·.oneCell') = true by simp [Value.oneCell'])
  have HE := Lib.hid (show ValP (fitV d) w _ _ by
    rw [HD.out]
    exact fit_ends (S := ⟨#[]⟩) (k := 0) (d := v0) (base := w.heap.size + 1 + 1) (Nat.lt_succ_self _) HF9.out rfl rfl (ansR_nil strE _ _) (ansR_nil prE _ _) (ansR_nil mkE _ _))
  go_wp2_with (with_reducible refine wpList_store_row rfl 35 (.tmp 2) (.tmp 102) rfl (w.heap.size + 1) #[.int .u8 0, .string ⟨#[]⟩, .slice none 0 0, .slice none 0 0, .slice none 0 0] rfl rfl 35 _ HF9.out.re HCs9.out rfl HOn9.out ?_)
  exact bodyPost_ret (results_cell_row rfl _ _ (w.heap.size + 1) 35 #[.int .u8 0, .string ⟨#[]⟩, .slice none 0 0, .slice none 0 0, .slice none 0 0] (0, 0) _ rfl (setRow_heap _ (w.heap.size + 1) _ _ _ _ HF9.out.re) Try.underlying35 rfl HCs9.out) rfl HE.out

set_option maxHeartbeats 8000000 in
theorem rfit_2 (k : Int) (S : ByteArray) (ql : Option Addr) (nl cl : Nat) (qh : Option Addr) (nh ch : Nat) (qz : Option Addr) (nz cz : Nat) (d : V) (w : World) (H : VArg w k S ql nl cl qh nh ch qz nz cz d) (hS : S.size ≤ 140737488351232) (hk : d.kind % 6 = 2) :
    Calls Try.prog 25 #[.agg #[.int .u8 k, .string S, .slice ql nl cl, .slice qh nh ch, .slice qz nz cz]] w (ValP (fitV d) w) := by
  have HV := Lib.hid H
  have HK := Lib.hid hk
  have HFB := Lib.hid (FB.new w #[.int .u8 k, .string S, .slice ql nl cl, .slice qh nh ch, .slice qz nz cz] #[.int .u8 0, .string ⟨#[]⟩, .slice none 0 0, .slice none 0 0, .slice none 0 0] #[.int .u8 0, .string ⟨#[]⟩, .slice none 0 0, .slice none 0 0, .slice none 0 0])
  obtain ⟨m, hm⟩ : ∃ m, m = min nl 8 := ⟨_, rfl⟩
  have hmin : min (nl : Int) 8 = (m : Int) := by omega
  have hmc : m ≤ cl := by have := H.bl; omega
  have hml := H.ml
  have hfl := Nat.le_trans H.bl H.ml
  have hfh := Nat.le_trans H.bh H.mh
  have hfz := Nat.le_trans H.bz H.mz
  have x1 : (k % 6 == 1) = false := by rw [H.ek, beq_eq_false_iff_ne]; omega
  have x2 : (k % 6 == 2) = true := by rw [H.ek, beq_iff_eq]; omega
  have x3 : (k % 6 == 3) = false := by rw [H.ek, beq_eq_false_iff_ne]; omega
  have x4 : (k % 6 == 4) = false := by rw [H.ek, beq_eq_false_iff_ne]; omega
  have x5 : (k % 6 == 5) = false := by rw [H.ek, beq_eq_false_iff_ne]; omega
  have hk0 : 0 ≤ k := by rw [H.ek]; omega
  have hk1 : k ≤ 255 := by rw [H.ek]; have := H.kb; omega
  have HM := Lib.hid hm
  have HTl := Lib.hid (show (d.l.take 8).length = m by rw [List.length_take, H.ll, hm]; omega)
  have HNil := Lib.hid H.el
  clear H hm hk
  go_enter Try.func25, Try.ntmps25
  go_upto_region 7 with fail
  generalize (((w.alloc _).alloc _).alloc _) = w3 at HFB ⊢
  have HO := Lib.hid (ownR_new strE w3.heap.size w3 w3.heap.size rfl (Nat.le_refl _))
  have HBn := Lib.hid (bel_new w3 (.cells #[] strE.ty))
  have HLs := Lib.hid (((HV.out.rl.keep HFB.out.bl).take 8).keep HBn.out)
  have hm8 : m ≤ 8 := by rw [HM.out]; omega
  have hsz3 := HFB.out.sz
  have HLe := Lib.hid (show ([] : List (List UInt8)).length + m ≤ 2097152 by simp; omega)
  go_upto_region 27 with (first
    | (at_builtin; refine wpList_append_rs strE (w0 := w3) rfl (.tmp 31) (.tmp 32) rfl _ [] rfl HO.out HBn.out ql (d.l.take 8) m cl rfl HTl.out HLs.out HNil.out HLe.out (d.l.take 8) rfl ?_
       intro v' w4 hown hb4
       obtain ⟨qo, co, rfl, hR, hge, hc1, hc2, hc3⟩ := hown.ans
       rw [HTl.out] at hc1
       have HF4 := Lib.hid (HFB.out.keep hb4)
       have HA4 := Lib.hid (show AnsR strE w3.heap.size w4 (.slice qo m co) (d.l.take 8) from ⟨qo, co, by rw [HTl.out], hR, hge, by rw [HTl.out]; exact hc1, hc2, hc3⟩)
       rw [HTl.out]
       have HF5 := Lib.hid (show FB w (w4.setCell ⟨w.heap.size + 1 + 1, 2, none⟩ (.slice qo m co)) _ _ #[.int .u8 0, .string ⟨#[]⟩, .slice qo m co, .slice none 0 0, .slice none 0 0] from HF4.out.put 2 (.slice qo m co))
       have c2 : w4.cell? ⟨w.heap.size + 1 + 1, 2, none⟩ = some (.slice none 0 0) := by rw [cell_of_row _ _ _ _ 35 _ HF4.out.ou]; rfl
       have f2 : w4.frozen? ⟨w.heap.size + 1 + 1, 2, none⟩ = false := frozen_of_row _ _ _ _ 35 HF4.out.ou
       have c0 : (w4.setCell ⟨w.heap.size + 1 + 1, 2, none⟩ (.slice qo m co)).cell? ⟨w.heap.size + 1 + 1, 0, none⟩ = some (.int .u8 0) := by rw [cell_of_row _ _ _ _ 35 _ HF5.out.ou]; rfl
       have f0 : (w4.setCell ⟨w.heap.size + 1 + 1, 2, none⟩ (.slice qo m co)).frozen? ⟨w.heap.size + 1 + 1, 0, none⟩ = false := frozen_of_row _ _ _ _ 35 HF5.out.ou
       have HF6 := Lib.hid (show FB w ((w4.setCell ⟨w.heap.size + 1 + 1, 2, none⟩ (.slice qo m co)).setCell ⟨w.heap.size + 1 + 1, 0, none⟩ (.int .u8 2)) _ _ #[.int .u8 2, .string ⟨#[]⟩, .slice qo m co, .slice none 0 0, .slice none 0 0] from HF5.out.put 0 (.int .u8 2))
       have HA6 := Lib.hid (show AnsR strE (w.heap.size + 1 + 1 + 1) ((w4.setCell ⟨w.heap.size + 1 + 1, 2, none⟩ (.slice qo m co)).setCell ⟨w.heap.size + 1 + 1, 0, none⟩ (.int .u8 2)) (.slice qo m co) (d.l.take 8) from (ansR_put (ansR_put HA4.out (by show w.heap.size + 1 + 1 < _; exact hsz3)) (by show w.heap.size + 1 + 1 < _; exact hsz3)).low hsz3)
       clear hown hb4 hR hge HF4 HA4 HF5))
  clear c0 c2 f0 f2
  generalize ((w4.setCell _ _).setCell _ _) = wt at HF6 HA6 ⊢
  have HF := HF6
  have HA := Lib.hid (⟨HA6.out, ansR_nil prE (w.heap.size + 1 + 1 + 1) wt, ansR_nil mkE (w.heap.size + 1 + 1 + 1) wt⟩ : AnsR strE (w.heap.size + 1 + 1 + 1) wt (.slice qo m co) (d.l.take 8) ∧ AnsR prE (w.heap.size + 1 + 1 + 1) wt (.slice none 0 0) [] ∧ AnsR mkE (w.heap.size + 1 + 1 + 1) wt (.slice none 0 0) [])
  have HVI := Lib.hid (show VIn wt 2 ⟨#[]⟩ qo m co none 0 0 none 0 0 ⟨2, [], d.l.take 8, [], []⟩ from by
    obtain ⟨q1, c1, e, hR, -⟩ := HA6.out
    injection e with e1 e2 e3
    subst e1 e3
    exact ⟨rfl, by show (_ : Nat) ≤ 255; simp, rfl, hR, Rs.nil _ _ _, Rs.nil _ _ _, HTl.out, rfl, rfl, by omega, by omega, by omega, hc1, by omega, by omega, hc2, by omega, by omega, hc3, fun _ => rfl, fun _ => rfl⟩)
  have HSz := Lib.hid (show sizeN ⟨2, [], d.l.take 8, [], []⟩ = m from HTl.out)
  clear HF6 HA6
  by_cases h0 : m = 0
  · have hlz : d.l = [] := by
      have h1 := HM.out
      have h2 := HV.out.ll
      exact List.eq_nil_of_length_eq_zero (by omega)
    have HD := Lib.hid (show fitV d = v0 by unfold fitV; rw [if_neg (by have := HK.out; omega), if_pos HK.out, if_pos hlz])
    clear hlz
    have t0 : ((m : Int) == 0) = true := by rw [beq_iff_eq]; omega
    clear h0
    have HCs := Lib.hid (show (Try.prog.info? 35).map (·.size) = some (#[.int .u8 2, .string ⟨#[]⟩, .slice qo m co, .slice none 0 0, .slice none 0 0] : Array Value).size from val_size)
    have HOn := Lib.hid (show (#[.int .u8 2, .string ⟨#[]⟩, .slice qo m co, .slice none 0 0, .slice none 0 0] : Array Value).all (·.oneCell') = true by simp [Value.oneCell'])
    have CS := Lib.hid (rsize 2 ⟨#[]⟩ qo m co none 0 0 none 0 0 ⟨2, [], d.l.take 8, [], []⟩ wt HVI.out)
    rw [HSz.out] at CS
    go_wp2_with (with_reducible refine wpList_load_row rfl 35 (.tmp 3) rfl (w.heap.size + 1 + 1) rfl 35 #[.int .u8 2, .string ⟨#[]⟩, .slice qo m co, .slice none 0 0, .slice none 0 0] (0, 0) _ HF.out.ou Try.underlying35 rfl HCs.out ?_)
    with_reducible refine CS.out.mono ?_
    rintro e w9 ⟨rfl, hb9⟩
    have HF9 := Lib.hid (HF.out.keep hb9)
    have HA1 := Lib.hid (HA.out.1.keep hb9)
    have HA2 := Lib.hid (HA.out.2.1.keep hb9)
    have HA3 := Lib.hid (HA.out.2.2.keep hb9)
    clear hb9 HF HA CS
    have HCs9 := Lib.hid (show (Try.prog.info? 35).map (·.size) = some (#[.int .u8 0, .string ⟨#[]⟩, .slice none 0 0, .slice none 0 0, .slice none 0 0] : Array Value).size from val_size)
    have HOn9 := Lib.hid (show (#[.int .u8 0, .string ⟨#[]⟩, .slice none 0 0, .slice none 0 0, .slice none 0 0] : Array Value).all (·.oneCell') = true by simp [Value.oneCell'])
    have HE := Lib.hid (show ValP (fitV d) w _ _ by
      rw [HD.out]
      exact fit_ends (S := ⟨#[]⟩) (k := 0) (d := v0) (base := w.heap.size + 1 + 1) (Nat.lt_succ_self _) HF9.out rfl rfl (ansR_nil strE _ _) (ansR_nil prE _ _) (ansR_nil mkE _ _))
    go_wp2_with (with_reducible refine wpList_store_row rfl 35 (.tmp 2) (.tmp 102) rfl (w.heap.size + 1) #[.int .u8 0, .string ⟨#[]⟩, .slice none 0 0, .slice none 0 0, .slice none 0 0] rfl rfl 35 _ HF9.out.re HCs9.out rfl HOn9.out ?_)
    exact bodyPost_ret (results_cell_row rfl _ _ (w.heap.size + 1) 35 #[.int .u8 0, .string ⟨#[]⟩, .slice none 0 0, .slice none 0 0, .slice none 0 0] (0, 0) _ rfl (setRow_heap _ (w.heap.size + 1) _ _ _ _ HF9.out.re) Try.underlying35 rfl HCs9.out) rfl HE.out
  · have hlz : d.l ≠ [] := fun h => h0 (by
      have h1 := HM.out
      have h2 := HV.out.ll
      rw [h] at h2
      simp at h2
      omega)
    have HD := Lib.hid (show fitV d = ⟨2, [], d.l.take 8, [], []⟩ by unfold fitV; rw [if_neg (by have := HK.out; omega), if_pos HK.out, if_neg hlz])
    clear hlz
    have t0 : ((m : Int) == 0) = false := by rw [beq_eq_false_iff_ne]; omega
    have HCs := Lib.hid (show (Try.prog.info? 35).map (·.size) = some (#[.int .u8 2, .string ⟨#[]⟩, .slice qo m co, .slice none 0 0, .slice none 0 0] : Array Value).size from val_size)
    have HOn := Lib.hid (show (#[.int .u8 2, .string ⟨#[]⟩, .slice qo m co, .slice none 0 0, .slice none 0 0] : Array Value).all (·.oneCell') = true by simp [Value.oneCell'])
    have CS := Lib.hid (rsize 2 ⟨#[]⟩ qo m co none 0 0 none 0 0 ⟨2, [], d.l.take 8, [], []⟩ wt HVI.out)
    rw [HSz.out] at CS
    go_wp2_with (with_reducible refine wpList_load_row rfl 35 (.tmp 3) rfl (w.heap.size + 1 + 1) rfl 35 #[.int .u8 2, .string ⟨#[]⟩, .slice qo m co, .slice none 0 0, .slice none 0 0] (0, 0) _ HF.out.ou Try.underlying35 rfl HCs.out ?_)
    with_reducible refine CS.out.mono ?_
    rintro e w9 ⟨rfl, hb9⟩
    have HF9 := Lib.hid (HF.out.keep hb9)
    have HA1 := Lib.hid (HA.out.1.keep hb9)
    have HA2 := Lib.hid (HA.out.2.1.keep hb9)
    have HA3 := Lib.hid (HA.out.2.2.keep hb9)
    clear hb9 HF HA CS
    have HCs9 := HCs
    have HOn9 := HOn
    have HE := Lib.hid (show ValP (fitV d) w _ _ by
      rw [HD.out]
      exact fit_ends (S := ⟨#[]⟩) (k := 2) (d := ⟨2, [], d.l.take 8, [], []⟩) (base := w.heap.size + 1 + 1 + 1) (by omega) HF9.out rfl rfl HA1.out HA2.out HA3.out)
    go_wp2_with (first
      | (with_reducible refine wpList_load_row rfl 35 (.tmp 3) rfl (w.heap.size + 1 + 1) rfl 35 #[.int .u8 2, .string ⟨#[]⟩, .slice qo m co, .slice none 0 0, .slice none 0 0] (0, 0) _ HF9.out.ou Try.underlying35 rfl HCs.out ?_)
      | (with_reducible refine wpList_store_row rfl 35 (.tmp 2) (.tmp 103) rfl (w.heap.size + 1) #[.int .u8 2, .string ⟨#[]⟩, .slice qo m co, .slice none 0 0, .slice none 0 0] rfl rfl 35 _ HF9.out.re HCs9.out rfl HOn9.out ?_))
    exact bodyPost_ret (results_cell_row rfl _ _ (w.heap.size + 1) 35 #[.int .u8 2, .string ⟨#[]⟩, .slice qo m co, .slice none 0 0, .slice none 0 0] (0, 0) _ rfl (setRow_heap _ (w.heap.size + 1) _ _ _ _ HF9.out.re) Try.underlying35 rfl HCs9.out) rfl HE.out

end Go.Proofs.Ytbcjgkedlapmhaa.RefV
