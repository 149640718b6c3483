/-
  The document's own answers of layer 9 (package tipstaffref09): a value of not too much.
-/
import Derived.Test.YtljhcakfbdbmpaaRefVal11
namespace Go.Proofs.Ytljhcakfbdbmpaa.RefV
open Go.RowKit Kit StrT RowG BOrd ValT
open Go.Op (bytesLess)
set_option linter.unusedVariables false
set_option maxRecDepth 100000

/-- The two blocks that 'Small' makes: what it was given, its answer. -/
structure SB (w W : World) (x z : Array Value) : Prop where
  bx : W.heap[w.heap.size]? = some (.cells x 26 (0, 0))
  re : W.heap[w.heap.size + 1]? = some (.cells z 26 (0, 0))
  bl : Below w.heap.size w W
  sz : w.heap.size + 1 + 1 ≤ W.heap.size
theorem SB.new (w : World) (x z : Array Value) : SB w ((w.alloc (.cells x 26)).alloc (.cells z 26)) x z where
  bx := by
    rw [Below.heap_alloc _ _ _ (by simp)]
    exact heap_alloc_last w _
  re := by
    have h := heap_alloc_last (w.alloc (.cells x 26)) (.cells z 26)
    simpa using h
  bl := (bel_new w _).alloc (by simp) _
  sz := by simp
theorem SB.keep {w W W' : World} {x z : Array Value} (h : SB w W x z) (hb : Below W.heap.size W W') : SB w W' x z where
  bx := by rw [hb.block _ (by have := h.sz; omega)]; exact h.bx
  re := by rw [hb.block _ (by have := h.sz; omega)]; exact h.re
  bl := h.bl.trans (hb.mono (by have := h.sz; omega))
  sz := Nat.le_trans h.sz hb.size
theorem SB.put {w W : World} {x z : Array Value} (h : SB w W x z) (j : Nat) (v : Value) : SB w (W.setCell ⟨w.heap.size, j, none⟩ v) (x.setIfInBounds j v) z where
  bx := heap_setCell_same _ _ _ _ _ _ h.bx
  re := by rw [heap_setCell_other _ _ _ _ (by show _ ≠ w.heap.size; omega)]; exact h.re
  bl := h.bl.setCell (by show _ ≤ w.heap.size; omega) v
  sz := by simpa using h.sz

set_option maxHeartbeats 8000000 in
theorem rsmall (k : Int) (S : ByteArray) (ql : Option Addr) (nl cl : Nat) (qh : Option Addr) (nh ch : Nat) (qz : Option Addr) (nz cz : Nat) (d : V) (w : World) (H : VArg w k S ql nl cl qh nh ch qz nz cz d) :
    Calls Try.prog 8 #[.agg #[.int .u8 k, .string S, .slice ql nl cl, .slice qh nh ch, .slice qz nz cz]] w (ValP (smallV d) w) := by
  have HV := Lib.hid H
  have HFB := Lib.hid (SB.new w #[.int .u8 k, .string S, .slice ql nl cl, .slice qh nh ch, .slice qz nz cz] #[.int .u8 0, .string ⟨#[]⟩, .slice none 0 0, .slice none 0 0, .slice none 0 0])
  obtain ⟨ml, hm⟩ : ∃ m, m = min nl 10 := ⟨_, rfl⟩
  obtain ⟨mh, gm⟩ : ∃ m, m = min nh 10 := ⟨_, rfl⟩
  obtain ⟨mz, jm⟩ : ∃ m, m = min nz 10 := ⟨_, rfl⟩
  have hminl : min (nl : Int) 10 = (ml : Int) := by omega
  have hminh : min (nh : Int) 10 = (mh : Int) := by omega
  have hminz : min (nz : Int) 10 = (mz : Int) := by omega
  have hmcl : ml ≤ cl := by have := H.bl; omega
  have hmch : mh ≤ ch := by have := H.bh; omega
  have hmcz : mz ≤ cz := by have := H.bz; omega
  have hml := H.ml
  have hmh := H.mh
  have hmz := H.mz
  have hfl := Nat.le_trans H.bl H.ml
  have hfh := Nat.le_trans H.bh H.mh
  have hfz := Nat.le_trans H.bz H.mz
  have HTl := Lib.hid (show (d.l.take 10).length = ml by rw [List.length_take, H.ll, hm]; omega)
  have HTh := Lib.hid (show (d.h.take 10).length = mh by rw [List.length_take, H.lh, gm]; omega)
  have HTz := Lib.hid (show (d.z.take 10).length = mz by rw [List.length_take, H.lz, jm]; omega)
  have hml10 : ml ≤ 2097152 := by omega
  have hmh10 : mh ≤ 2097152 := by omega
  have hmz10 : mz ≤ 2097152 := by omega
  have HEl := Lib.hid H.el
  have HEh := Lib.hid H.eh
  have HEz := Lib.hid H.ez
  clear H hm gm jm
  go_enter Try.func8, Try.ntmps8
  go_upto_region 1 with fail
  generalize ((w.alloc _).alloc _) = w3 at HFB ⊢
  have HO := Lib.hid (ownR_new strE w3.heap.size w3 w3.heap.size rfl (Nat.le_refl _))
  have HBn := Lib.hid (bel_new w3 (.cells #[] strE.ty))
  have HLs := Lib.hid (((HV.out.rl.keep HFB.out.bl).take 10).keep HBn.out)
  have hsz3 := HFB.out.sz
  have HLe := Lib.hid (show ([] : List (List UInt8)).length + ml ≤ 2097152 by rw [List.length_nil, Nat.zero_add]; exact hml10)
  have y2 : w3.cell? ⟨w.heap.size, 2, none⟩ = some (.slice ql nl cl) := by rw [cell_of_row _ _ _ _ 26 _ HFB.out.bx]; rfl
  have HFn := Lib.hid (HFB.out.keep HBn.out)
  have z2 : (w3.alloc (.cells #[] 9)).cell? ⟨w.heap.size, 2, none⟩ = some (.slice ql nl cl) := (show (w3.alloc (.cells #[] strE.ty)).cell? ⟨w.heap.size, 2, none⟩ = some (.slice ql nl cl) from by rw [cell_of_row _ _ _ _ 26 _ HFn.out.bx]; rfl)
  go_upto_region 2 with (first
    | (at_builtin; refine wpList_append_rs strE (w0 := w3) rfl (.tmp 3) (.tmp 10) rfl _ [] rfl HO.out HBn.out ql (d.l.take 10) ml cl rfl HTl.out HLs.out HEl.out HLe.out (d.l.take 10) rfl ?_
       intro v' w4 hown hb4
       obtain ⟨ol, pl, rfl, hR, hge, hc1, hc2, hc3⟩ := hown.ans
       rw [HTl.out] at hc1
       have HF4 := Lib.hid (HFB.out.keep hb4)
       have HA4 := Lib.hid (show AnsR strE w3.heap.size w4 (.slice ol ml pl) (d.l.take 10) from ⟨ol, pl, by rw [HTl.out], hR, hge, by rw [HTl.out]; exact hc1, hc2, hc3⟩)
       rw [HTl.out]
       have HF5 := Lib.hid (show SB w (w4.setCell ⟨w.heap.size, 2, none⟩ (.slice ol ml pl)) #[.int .u8 k, .string S, .slice ol ml pl, .slice qh nh ch, .slice qz nz cz] _ from HF4.out.put 2 (.slice ol ml pl))
       have c2 : w4.cell? ⟨w.heap.size, 2, none⟩ = some (.slice ql nl cl) := by rw [cell_of_row _ _ _ _ 26 _ HF4.out.bx]; rfl
       have f2 : w4.frozen? ⟨w.heap.size, 2, none⟩ = false := frozen_of_row _ _ _ _ 26 HF4.out.bx
       have HAl := Lib.hid (show AnsR strE (w.heap.size + 1 + 1) (w4.setCell ⟨w.heap.size, 2, none⟩ (.slice ol ml pl)) (.slice ol ml pl) (d.l.take 10) from (ansR_put HA4.out (by show w.heap.size < _; exact Nat.lt_of_lt_of_le (by omega) hsz3)).low hsz3)
       clear hown hb4 hR hge HF4 HA4 HFB))
  clear y2 z2 HFn HO HBn HLs HLe hsz3 c2 f2 hc1 hc2 hc3
  generalize (w4.setCell _ _) = w4' at HF5  HAl ⊢
  have HFB := HF5
  clear HF5
  have HO := Lib.hid (ownR_new prE w4'.heap.size w4' w4'.heap.size rfl (Nat.le_refl _))
  have HBn := Lib.hid (bel_new w4' (.cells #[] prE.ty))
  have HLs := Lib.hid (((HV.out.rh.keep HFB.out.bl).take 10).keep HBn.out)
  have hsz3 := HFB.out.sz
  have HLe := Lib.hid (show ([] : List (Pr)).length + mh ≤ 2097152 by rw [List.length_nil, Nat.zero_add]; exact hmh10)
  have y3 : w4'.cell? ⟨w.heap.size, 3, none⟩ = some (.slice qh nh ch) := by rw [cell_of_row _ _ _ _ 26 _ HFB.out.bx]; rfl
  have HFn := Lib.hid (HFB.out.keep HBn.out)
  have z3 : (w4'.alloc (.cells #[] 34)).cell? ⟨w.heap.size, 3, none⟩ = some (.slice qh nh ch) := (show (w4'.alloc (.cells #[] prE.ty)).cell? ⟨w.heap.size, 3, none⟩ = some (.slice qh nh ch) from by rw [cell_of_row _ _ _ _ 26 _ HFn.out.bx]; rfl)
  go_upto_region 3 with (first
    | (at_builtin; refine wpList_append_rs prE (w0 := w4') rfl (.tmp 13) (.tmp 20) rfl _ [] rfl HO.out HBn.out qh (d.h.take 10) mh ch rfl HTh.out HLs.out HEh.out HLe.out (d.h.take 10) rfl ?_
       intro v' w5 hown hb4
       obtain ⟨oh, ph, rfl, hR, hge, hc1, hc2, hc3⟩ := hown.ans
       rw [HTh.out] at hc1
       have HF4 := Lib.hid (HFB.out.keep hb4)
       have HA4 := Lib.hid (show AnsR prE w4'.heap.size w5 (.slice oh mh ph) (d.h.take 10) from ⟨oh, ph, by rw [HTh.out], hR, hge, by rw [HTh.out]; exact hc1, hc2, hc3⟩)
       rw [HTh.out]
       have HF5 := Lib.hid (show SB w (w5.setCell ⟨w.heap.size, 3, none⟩ (.slice oh mh ph)) #[.int .u8 k, .string S, .slice ol ml pl, .slice oh mh ph, .slice qz nz cz] _ from HF4.out.put 3 (.slice oh mh ph))
       have c3 : w5.cell? ⟨w.heap.size, 3, none⟩ = some (.slice qh nh ch) := by rw [cell_of_row _ _ _ _ 26 _ HF4.out.bx]; rfl
       have f3 : w5.frozen? ⟨w.heap.size, 3, none⟩ = false := frozen_of_row _ _ _ _ 26 HF4.out.bx
       have HAh := Lib.hid (show AnsR prE (w.heap.size + 1 + 1) (w5.setCell ⟨w.heap.size, 3, none⟩ (.slice oh mh ph)) (.slice oh mh ph) (d.h.take 10) from (ansR_put HA4.out (by show w.heap.size < _; exact Nat.lt_of_lt_of_le (by omega) hsz3)).low hsz3)
       have HBl := Lib.hid (ansR_put (u := .slice oh mh ph) (a := ⟨w.heap.size, 3, none⟩) (HAl.out.keep hb4) (by show w.heap.size < w.heap.size + 1 + 1; omega))
       clear HAl
       have HAl := HBl
       clear HBl
       clear hown hb4 hR hge HF4 HA4 HFB))
  clear y3 z3 HFn HO HBn HLs HLe hsz3 c3 f3 hc1 hc2 hc3
  generalize (w5.setCell _ _) = w5' at HF5 HAl HAh ⊢
  have HFB := HF5
  clear HF5
  have HO := Lib.hid (ownR_new mkE w5'.heap.size w5' w5'.heap.size rfl (Nat.le_refl _))
  have HBn := Lib.hid (bel_new w5' (.cells #[] mkE.ty))
  have HLs := Lib.hid (((HV.out.rz.keep HFB.out.bl).take 10).keep HBn.out)
  have hsz3 := HFB.out.sz
  have HLe := Lib.hid (show ([] : List (Mk)).length + mz ≤ 2097152 by rw [List.length_nil, Nat.zero_add]; exact hmz10)
  have y4 : w5'.cell? ⟨w.heap.size, 4, none⟩ = some (.slice qz nz cz) := by rw [cell_of_row _ _ _ _ 26 _ HFB.out.bx]; rfl
  have HFn := Lib.hid (HFB.out.keep HBn.out)
  have z4 : (w5'.alloc (.cells #[] 36)).cell? ⟨w.heap.size, 4, none⟩ = some (.slice qz nz cz) := (show (w5'.alloc (.cells #[] mkE.ty)).cell? ⟨w.heap.size, 4, none⟩ = some (.slice qz nz cz) from by rw [cell_of_row _ _ _ _ 26 _ HFn.out.bx]; rfl)
  go_upto_region 4 with (first
    | (at_builtin; refine wpList_append_rs mkE (w0 := w5') rfl (.tmp 23) (.tmp 30) rfl _ [] rfl HO.out HBn.out qz (d.z.take 10) mz cz rfl HTz.out HLs.out HEz.out HLe.out (d.z.take 10) rfl ?_
       intro v' w6 hown hb4
       obtain ⟨oz, pz, rfl, hR, hge, hc1, hc2, hc3⟩ := hown.ans
       rw [HTz.out] at hc1
       have HF4 := Lib.hid (HFB.out.keep hb4)
       have HA4 := Lib.hid (show AnsR mkE w5'.heap.size w6 (.slice oz mz pz) (d.z.take 10) from ⟨oz, pz, by rw [HTz.out], hR, hge, by rw [HTz.out]; exact hc1, hc2, hc3⟩)
       rw [HTz.out]
       have HF5 := Lib.hid (show SB w (w6.setCell ⟨w.heap.size, 4, none⟩ (.slice oz mz pz)) #[.int .u8 k, .string S, .slice ol ml pl, .slice oh mh ph, .slice oz mz pz] _ from HF4.out.put 4 (.slice oz mz pz))
       have c4 : w6.cell? ⟨w.heap.size, 4, none⟩ = some (.slice qz nz cz) := by rw [cell_of_row _ _ _ _ 26 _ HF4.out.bx]; rfl
       have f4 : w6.frozen? ⟨w.heap.size, 4, none⟩ = false := frozen_of_row _ _ _ _ 26 HF4.out.bx
       have HAz := Lib.hid (show AnsR mkE (w.heap.size + 1 + 1) (w6.setCell ⟨w.heap.size, 4, none⟩ (.slice oz mz pz)) (.slice oz mz pz) (d.z.take 10) from (ansR_put HA4.out (by show w.heap.size < _; exact Nat.lt_of_lt_of_le (by omega) hsz3)).low hsz3)
       have HBl := Lib.hid (ansR_put (u := .slice oz mz pz) (a := ⟨w.heap.size, 4, none⟩) (HAl.out.keep hb4) (by show w.heap.size < w.heap.size + 1 + 1; omega))
       clear HAl
       have HAl := HBl
       clear HBl
       have HBh := Lib.hid (ansR_put (u := .slice oz mz pz) (a := ⟨w.heap.size, 4, none⟩) (HAh.out.keep hb4) (by show w.heap.size < w.heap.size + 1 + 1; omega))
       clear HAh
       have HAh := HBh
       clear HBh
       clear hown hb4 hR hge HF4 HA4 HFB))
  clear y4 z4 HFn HO HBn HLs HLe hsz3 c4 f4 hc1 hc2 hc3
  generalize (w6.setCell _ _) = w6' at HF5 HAl HAh HAz ⊢
  have HFB := HF5
  clear HF5
  have HCs := Lib.hid (show (Try.prog.info? 26).map (·.size) = some (#[.int .u8 k, .string S, .slice ol ml pl, .slice oh mh ph, .slice oz mz pz] : Array Value).size from val_size)
  have HOn := Lib.hid (show (#[.int .u8 k, .string S, .slice ol ml pl, .slice oh mh ph, .slice oz mz pz] : Array Value).all (·.oneCell') = true by simp [Value.oneCell'])
  have HE := Lib.hid (show ValP (smallV d) w (.returned (.agg #[.int .u8 k, .string S, .slice ol ml pl, .slice oh mh ph, .slice oz mz pz])) (w6'.setRow (w.heap.size + 1) #[.int .u8 k, .string S, .slice ol ml pl, .slice oh mh ph, .slice oz mz pz]) from
    ⟨_, rfl, ⟨S, _, _, _, by rw [HV.out.ek]; rfl, HV.out.es, (ansR_row HAl.out (by omega)).low (by omega), (ansR_row HAh.out (by omega)).low (by omega), (ansR_row HAz.out (by omega)).low (by omega)⟩, below_setRow HFB.out.bl (by omega) _⟩)
  go_wp2_with (first
    | (with_reducible refine wpList_load_row rfl 26 (.tmp 1) rfl w.heap.size rfl 26 #[.int .u8 k, .string S, .slice ol ml pl, .slice oh mh ph, .slice oz mz pz] (0, 0) _ HFB.out.bx Try.underlying26 rfl HCs.out ?_)
    | (with_reducible refine wpList_store_row rfl 26 (.tmp 2) (.tmp 33) rfl (w.heap.size + 1) #[.int .u8 k, .string S, .slice ol ml pl, .slice oh mh ph, .slice oz mz pz] rfl rfl 26 _ HFB.out.re HCs.out rfl HOn.out ?_))
  exact bodyPost_ret (results_cell_row rfl _ _ (w.heap.size + 1) 26 #[.int .u8 k, .string S, .slice ol ml pl, .slice oh mh ph, .slice oz mz pz] (0, 0) _ rfl (setRow_heap _ (w.heap.size + 1) _ _ _ _ HFB.out.re) Try.underlying26 rfl HCs.out) rfl HE.out

end Go.Proofs.Ytljhcakfbdbmpaa.RefV
