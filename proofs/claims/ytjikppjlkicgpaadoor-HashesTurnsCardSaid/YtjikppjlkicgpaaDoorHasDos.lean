/-
  The landed code of layer 13: the map of method values, and Do.
-/
import Derived.Test.YtjikppjlkicgpaaDoorHasMeths
import Derived.Test.YtjikppjlkicgpaaDoorMapLits
import Derived.Test.YtjikppjlkicgpaaDoorLowNum
import Derived.Test.YtjikppjlkicgpaaDoorDoRows
import Derived.Deep.DeepCutAuto
import Derived.Laws.EntriesVeiled
import Derived.Deep.RegionLaw
namespace Go.Proofs.YtjikppjlkicgpaaDoor.HasM
open Go.RowKit Kit StrT RowG BOrd ValT StoT ReplyT ReplyMath ValM BytesIn DoT Low MapT LstT HasT NumL NumW ReplyM LawK DoV
open RefTab (results_cell_slot)
set_option linter.unusedVariables false
set_option maxRecDepth 100000

def deedV (gh : Nat) (m : Int) (f : FuncId) : Value := .agg #[.int .i64 m, .func (.func f) #[.pointer (some ⟨gh, 0, none⟩)] #[]]
def deedsL (gh : Nat) : List (List UInt8 × Value) := [([104, 115, 101, 116], deedV gh 4 33), ([104, 103, 101, 116], deedV gh 3 34), ([104, 100, 101, 108], deedV gh 3 35), ([104, 108, 101, 110], deedV gh 2 36), ([104, 103, 101, 116, 97, 108, 108], deedV gh 2 37), ([104, 105, 110, 99, 114, 98, 121], deedV gh 4 38)]
theorem deeds_nodup (gh : Nat) : ((deedsL gh).map (·.1)).Nodup := by
  show [[104, 115, 101, 116], [104, 103, 101, 116], [104, 100, 101, 108], [104, 108, 101, 110], [104, 103, 101, 116, 97, 108, 108], [104, 105, 110, 99, 114, 98, 121]].Nodup
  decide +kernel
set_option maxHeartbeats 8000000 in
theorem deeds_any (gh : Nat) (w : World) : Calls Tryd.prog 24 #[.pointer (some ⟨gh, 0, none⟩)] w fun e w' => e = .returned (.map (some w.heap.size)) ∧ MapAt w' w.heap.size (deedsL gh) ∧ Below w.heap.size w w' := by
  have hmm := @run_makeMap Tryd.prog
  have hM : MapAt (w.alloc (.map #[] 0)) w.heap.size ((deedsL gh).take 0) := MapAt.new w
  have hB : Below w.heap.size w (w.alloc (.map #[] 0)) := Kit.below1 w _
  have hnd := Lib.hid (deeds_nodup gh)
  go_enter Tryd.func24, Tryd.ntmps24
  go_upto_region 1 with fail
  apply wp_region_lit
  try simp only [List.append_eq, List.cons_append, List.nil_append]
  go_wp2_with (with_reducible refine wpList_insert_lit rfl 60 (.tmp 3) _ _ rfl 9 58 Tryd.underlying60 Tryd.underlying9 w.heap.size w.heap.size rfl (deedsL gh) _ hM hnd.out hB (Nat.le_refl _) (by kernel_rfl) ?_; clear hM hB; intro w1 hM hB)
  go_ret
  exact ⟨rfl, hM, hB⟩

theorem deeds_bm (gh : Nat) (w : World) : Calls Tryd.prog 24 #[.pointer (some ⟨gh, 0, none⟩)] w fun e w' => ∃ bm, e = .returned (.map (some bm)) ∧ MapAt w' bm (deedsL gh) ∧ Below w.heap.size w w' :=
  (deeds_any gh w).mono fun e w' h => ⟨_, h.1, h.2⟩
theorem ownR_same {α : Type} {E : Enc α} {base : Nat} {w w' : World} {v : Value} {L : List α} (h : OwnR E base w v L) (ho : ∀ k, v.ownBlock = some k → w'.heap[k]? = w.heap[k]?) : OwnR E base w' v L := by
  refine ⟨h.1, ?_⟩
  rcases h.2 with h1 | ⟨g, cap, cur, e, hg, h2, h3⟩
  · exact Or.inl h1
  · exact Or.inr ⟨g, cap, cur, e, hg, (ho g (by rw [e]; rfl)).trans h2, h3⟩
theorem ownR_blt {α : Type} {E : Enc α} {base : Nat} {w : World} {v : Value} {L : List α} (h : OwnR E base w v L) : ∀ k, v.ownBlock = some k → base ≤ k ∧ k < w.heap.size := by
  intro k hk
  rcases h.2 with ⟨rfl, -⟩ | ⟨g, cap, cur, rfl, hg, h2, -⟩
  · cases hk
  · injection hk with hk
    subst hk
    exact ⟨hg, (Array.getElem?_eq_some_iff.1 h2).1⟩
/-- The block of what was found, before it is filled. -/
def DZ (w : World) (g : Nat) : Prop := w.heap[g]? = some (.cells #[.int .i64 0, .nilFunc] 58 (0, 0))
theorem DZ.keep {w w' : World} {g : Nat} (h : DZ w g) (hb : Below w.heap.size w w') : DZ w' g := (hb.block g (Array.getElem?_eq_some_iff.1 h).1).trans h
theorem dz_al {w w' : World} (hb : Below (w.alloc (.cells #[.int .i64 0, .nilFunc] 58)).heap.size (w.alloc (.cells #[.int .i64 0, .nilFunc] 58)) w') : DZ w' w.heap.size := DZ.keep (heap_alloc_last w _) hb
theorem dz_da {w w' : World} (hb : Below (w.drew.alloc (.cells #[.int .i64 0, .nilFunc] 58)).heap.size (w.drew.alloc (.cells #[.int .i64 0, .nilFunc] 58)) w') : DZ w' w.heap.size := DZ.keep (heap_alloc_last w.drew _) hb
theorem dz_facts {w : World} {g : Nat} (h : DZ w g) : w.cell? ⟨g, 0, none⟩ = some (.int .i64 0) ∧ w.cell? ⟨g, 1, none⟩ = some .nilFunc ∧ w.frozen? ⟨g, 0, none⟩ = false ∧ w.frozen? ⟨g, 1, none⟩ = false :=
  ⟨(cell_of_row _ _ _ _ 58 _ h).trans rfl, (cell_of_row _ _ _ _ 58 _ h).trans rfl, frozen_of_row _ _ _ _ 58 h, frozen_of_row _ _ _ _ 58 h⟩
def dset (w : World) (g gh : Nat) (m : Int) (fu : FuncId) : World := (w.setCell ⟨g, 0, none⟩ (.int .i64 m)).setCell ⟨g, 1, none⟩ (.func (.func fu) #[.pointer (some ⟨gh, 0, none⟩)] #[])
/-- What lies in memory ahead of the look-up: the value, its pairs, the hash. -/
structure Fn0 (w w7 : World) (gh : Nat) (x z : Array Value) (p : PV) (B : Nat) : Prop where
  db : DB w w7 x z
  pv : p.In w7
  ow : OwnR prE B w7 (.slice p.qh p.nh p.nh) p.d.h
  hh : w7.heap[gh]? = some (.cells #[.slice p.qh p.nh p.nh] 56 (0, 0))
  sz : B ≤ gh
theorem Fn0.lt {w w7 : World} {gh : Nat} {x z : Array Value} {p : PV} {B : Nat} (h : Fn0 w w7 gh x z p B) : gh < w7.heap.size := (Array.getElem?_eq_some_iff.1 h.hh).1
theorem Fn0.keep {w w7 w8 : World} {gh : Nat} {x z : Array Value} {p : PV} {B : Nat} (h : Fn0 w w7 gh x z p B) (hb : Below w7.heap.size w7 w8) : Fn0 w w8 gh x z p B :=
  ⟨h.db.keep hb, pv_keep h.pv hb, h.ow.keep hb, (hb.block gh h.lt).trans h.hh, h.sz⟩
/-- What was found is there. -/
structure Fnd (w w7 : World) (gd gh : Nat) (m : Int) (fu : FuncId) (x z : Array Value) (p : PV) (B : Nat) : Prop where
  f0 : Fn0 w w7 gh x z p B
  d0 : w7.cell? ⟨gd, 0, none⟩ = some (.int .i64 m)
  d1 : w7.cell? ⟨gd, 1, none⟩ = some (.func (.func fu) #[.pointer (some ⟨gh, 0, none⟩)] #[])
theorem fnd_al {w w6 : World} {gh : Nat} {m : Int} {fu : FuncId} {x z : Array Value} {p : PV} {B : Nat} (h : Fn0 w w6 gh x z p B) : Fnd w (w6.alloc (.cells #[.int .i64 m, (.func (.func fu) #[.pointer (some ⟨gh, 0, none⟩)] #[])] 58)) w6.heap.size gh m fu x z p B where
  f0 := h.keep (Kit.below1 w6 _)
  d0 := by rw [cell_of_row _ _ _ _ 58 _ (heap_alloc_last w6 _)]; rfl
  d1 := by rw [cell_of_row _ _ _ _ 58 _ (heap_alloc_last w6 _)]; rfl
theorem fnd_set {w w6 : World} {gd gh : Nat} {m : Int} {fu : FuncId} {x z : Array Value} {p : PV} {B : Nat} (hz : DZ w6 gd) (hg : w.heap.size + 1 < gd) (hgh : gh < gd) (hq : ∀ j, p.at_ j → j < gd) (hqo : ∀ k, (Value.slice p.qh p.nh p.nh).ownBlock = some k → B ≤ k ∧ k < gd) (h : Fn0 w w6 gh x z p B) : Fnd w (dset w6 gd gh m fu) gd gh m fu x z p B := by
  have h1 := heap_setCell_same _ _ 0 _ _ (.int .i64 m) hz
  have h2 := heap_setCell_same _ _ 1 _ _ (.func (.func fu) #[.pointer (some ⟨gh, 0, none⟩)] #[]) h1
  have ho' : ∀ j, j ≠ gd → (dset w6 gd gh m fu).heap[j]? = w6.heap[j]? := fun j hj => by
    unfold dset
    rw [heap_setCell_other _ _ _ _ hj, heap_setCell_other _ _ _ _ hj]
  refine ⟨⟨⟨by rw [ho' _ (by omega)]; exact h.db.bx, by rw [ho' _ (by omega)]; exact h.db.re, ((h.db.bl.setCell (p := ⟨gd, 0, none⟩) (by show _ ≤ gd; omega) _).setCell (p := ⟨gd, 1, none⟩) (by show _ ≤ gd; omega) _), by simpa [dset] using h.db.sz⟩, h.pv.same (by simp [dset]) (fun j hj => ho' j (by have := hq j hj; omega)), ownR_same h.ow (fun k hk => ho' k (by have := (hqo k hk).2; omega)), by rw [ho' _ (by omega)]; exact h.hh, h.sz⟩, ?_, ?_⟩
  · exact (cell_of_row _ _ _ _ 58 _ h2).trans rfl
  · exact (cell_of_row _ _ _ _ 58 _ h2).trans rfl

theorem own_pv (k : Int) (S : ByteArray) (ql : Option Addr) (nl cl : Nat) (qh : Option Addr) (nh ch : Nat) (qz : Option Addr) (nz cz : Nat) (d : V) (w : World) (h : VIn w k S ql nl cl qh nh ch qz nz cz d) :
    Calls Tryd.prog 23 #[.agg #[.int .u8 k, .string S, .slice ql nl cl, .slice qh nh ch, .slice qz nz cz]] w fun e w' => ∃ p : PV, e = .returned p.agg ∧ p.In w' ∧ p.d = d ∧ (∀ j, p.at_ j → w.heap.size ≤ j) ∧ p.ch = p.nh ∧ OwnR prE w.heap.size w' (.slice p.qh p.nh p.nh) d.h ∧ Below w.heap.size w w' := by
  have hz := pv_sizes (p := ⟨k, S, ql, nl, cl, qh, nh, ch, qz, nz, cz, d⟩) h
  refine (own_any2 k S ql nl cl qh nh ch qz nz cz d w h).mono ?_
  intro e w' he
  obtain ⟨S', vl, vh, vz, h1, h2, h3, h4, h5, h6, -, ⟨q, rfl⟩, -⟩ := id he
  obtain ⟨p, e1, e2, e3, e4, e5⟩ := pv_own he.p hz.1 hz.2.1 hz.2.2.1 hz.2.2.2
  rw [h1] at e1
  injection e1 with e1
  have e6 : Value.slice q d.h.length d.h.length = .slice p.qh p.nh p.ch := by
    unfold PV.agg at e1
    simp only [Value.agg.injEq, Array.mk.injEq, List.cons.injEq] at e1
    exact e1.2.2.2.1
  injection e6 with e7 e8 e9
  refine ⟨p, ?_, e2, e3, fun j hj => (e4 j hj).1, by omega, ?_, e5⟩
  · rw [h1, e1]
  · rw [← e7, ← e8]
    exact h4
theorem cut_world (W : World) (b : Nat) (h : b ≤ W.heap.size) : ∃ w0 : World, w0.heap.size = b ∧ Below b w0 W :=
  ⟨{ W with heap := W.heap.extract 0 b }, by simp; omega, ⟨rfl, rfl, rfl, by simp; omega, fun k hk => by
    show W.heap[k]? = (W.heap.extract 0 b)[k]?
    rw [Array.getElem?_extract, if_pos (by omega), Nat.zero_add]⟩⟩
theorem db_cut {w W : World} {x z : Array Value} (h : DB w W x z) (B : Nat) (h1 : w.heap.size + 1 + 1 ≤ B) (h2 : B ≤ W.heap.size) : ∃ w0 : World, w0.heap.size = B ∧ DB w w0 x z ∧ Below w0.heap.size w0 W := by
  obtain ⟨w0, hs, hb⟩ := cut_world W B h2
  refine ⟨w0, hs, ⟨?_, ?_, ?_, by omega⟩, by rw [hs]; exact hb⟩
  · rw [← hb.block _ (by omega)]; exact h.bx
  · rw [← hb.block _ (by omega)]; exact h.re
  · have h1 := h.bl
    exact ⟨hb.os.symm.trans h1.os, hb.tape.symm.trans h1.tape, hb.output.symm.trans h1.output, by omega, fun k hk => by rw [← hb.block k (by omega)]; exact h1.block k hk⟩
theorem b_al {w w' : World} {o : Obj} (hb : Below (w.alloc o).heap.size (w.alloc o) w') : Below w.heap.size w w' := c_al hb
theorem b_da {w w' : World} {o : Obj} (hb : Below (w.drew.alloc o).heap.size (w.drew.alloc o) w') : Below w.heap.size w w' := c_da hb
theorem b_dr {w w' : World} (hb : Below w.drew.heap.size w.drew w') : Below w.heap.size w w' := c_dr hb

set_option maxHeartbeats 16000000 in
/-- Of a value of another type. -/
theorem do_wrong (nm : List UInt8) (m : Int) (fu : FuncId) (hV : ∀ gh Z, getM (deedsL gh) nm Z = .agg #[.int .i64 m, .func (.func fu) #[.pointer (some ⟨gh, 0, none⟩)] #[]]) (p : PV) (q : Option Addr) (L : List (List UInt8)) (n c : Nat) (w : World) (hp : p.In w) (hS : p.S.size ≤ 1048576) (hg : Gd w) (hn : L.length = n) (h0 : 1 ≤ n) (hm : m ≤ n) (hs : StrT.Ss w q L) (hw : (wd L 0).length ≤ 140737488351232) (hnm : nmL L = nm) (hk : p.d.kind ≠ 0 ∧ p.d.kind ≠ 3) :
    Calls Tryd.prog 11 #[p.agg, .slice q n c] w (DoP (fun _ => False) p.d eWrong w) := by
  obtain ⟨k, S, ql, nl, cl, qh, nh, ch, qz, nz, cz, d⟩ := p
  have CO := Lib.hid (fun W (h : Below w.heap.size w W) => own_pv k S ql nl cl qh nh ch qz nz cz d W (pv_keep hp h))
  have HSd := Lib.hid (show S.data.toList = d.s from VIn.es hp)
  have hSz : S.size ≤ 1048576 := hS
  have HSs := Lib.hid (show d.s.length ≤ 1048576 by rw [← HSd.out, str_len]; exact hSz)
  have HG := Lib.hid (fun W (h : Below w.heap.size w W) => hg.keep h)
  have HD := Lib.hid (DB.new w #[.int .u8 k, .string S, .slice ql nl cl, .slice qh nh ch, .slice qz nz cz] #[.int .u8 0, .string ⟨#[]⟩, .slice none 0 0, .slice none 0 0, .slice none 0 0])
  obtain ⟨T, hT⟩ : ∃ T : ByteArray, T = ⟨(wd L 0).toArray⟩ := ⟨_, rfl⟩
  have hTz : T.size ≤ maxLen := by rw [hT, size_bytes]; unfold maxLen; exact Nat.le_trans hw (by decide)
  have HTd := Lib.hid (show lowL T.data.toList = nm by rw [hT]; exact hnm)
  obtain ⟨b, off, rfl, hbl, hc⟩ := ss_word hs 0 (by omega)
  rw [← hT, Nat.add_zero] at hc
  have HC := Lib.hid (fun W (h : Below w.heap.size w W) => (h.cell (p := ⟨b, off, none⟩) hbl).trans hc)
  have HSt := Lib.hid (fun W (h : Below w.heap.size w W) => hs.keep h)
  have n0 : (0 : Int) < (n : Int) := by omega
  have n00 : 0 < n := by omega
  have n1 : ((n : Int) == 0) = false := by rw [beq_eq_false_iff_ne]; omega
  have n3 : decide ((n : Int) < m) = false := decide_eq_false (by omega)
  have CD := Lib.hid (fun gh W => deeds_bm gh W)
  have CL := Lib.hid (fun W => LowN.lower_any T W hTz)
  rw [HTd.out] at CL
  have HLk := Lib.hid (fun (gh : Nat) (W : World) (bm : Nat) (h : MapAt W bm (deedsL gh)) => lookup_ok Tryd.underlying60 Tryd.underlying9 h ⟨nm.toArray⟩ (.agg #[.int .i64 m, .func (.func fu) #[.pointer (some ⟨gh, 0, none⟩)] #[]]) (hV gh))
  have HK := Lib.hid hk
  have CE := Lib.hid (fun W (h : Below w.heap.size w W) (s : ByteArray) (hs : s.data.toList = mWrong) => (show Calls Tryd.prog 26 #[.string s] W (Gives eWrong W) from err_to s mWrong hs (by decide) W (hg.keep h).gt))
  show Calls Tryd.prog 11 #[.agg #[.int .u8 k, .string S, .slice ql nl cl, .slice qh nh ch, .slice qz nz cz], .slice (some ⟨b, off, none⟩) n c] w _
  clear hp hS hg hT hnm hs hc hw HTd hV
  go_enter Tryd.func11, Tryd.ntmps11
  go_wp2_with fail
  generalize ((w.alloc _).alloc _) = W2 at HD ⊢
  with_reducible refine (CO.out _ HD.out.bl).mono ?_
  rintro e w3 ⟨p1, rfl, hI, hd, ha, hti, ho, hb3⟩
  obtain ⟨k1, S1, ql1, nl1, cl1, qh1, nh1, ch1, qz1, nz1, cz1, d1⟩ := p1
  dsimp only [PV.agg]
  have hti2 : nh1 = ch1 := Eq.symm hti
  clear hti
  subst hti2
  obtain rfl : d1 = d := hd
  rename V => d
  have HCs := Lib.hid (show (Tryd.prog.info? 26).map (·.size) = some (#[.int .u8 k1, .string S1, .slice ql1 nl1 cl1, .slice qh1 nh1 nh1, .slice qz1 nz1 cz1] : Array Value).size from val_size)
  have HOn := Lib.hid (show (#[.int .u8 k1, .string S1, .slice ql1 nl1 cl1, .slice qh1 nh1 nh1, .slice qz1 nz1 cz1] : Array Value).all (·.oneCell') = true by simp [Value.oneCell'])
  have HD3 := Lib.hid (HD.out.keep hb3)
  have HA3 := Lib.hid (show ∀ j, PV.at_ ⟨k1, S1, ql1, nl1, cl1, qh1, nh1, nh1, qz1, nz1, cz1, d⟩ j → w.heap.size + 1 < j from fun j hj => by have := ha j hj; have := HD.out.sz; omega)
  have HI3 := Lib.hid (show PV.In (w3.setRow w.heap.size #[.int .u8 k1, .string S1, .slice ql1 nl1 cl1, .slice qh1 nh1 nh1, .slice qz1 nz1 cz1]) ⟨k1, S1, ql1, nl1, cl1, qh1, nh1, nh1, qz1, nz1, cz1, d⟩ from PV.In.same hI (by simp) (fun j hj => setRow_other _ _ _ _ (by have := HA3.out j hj; omega)))
  have HD4 := Lib.hid (HD3.out.setBox #[.int .u8 k1, .string S1, .slice ql1 nl1 cl1, .slice qh1 nh1 nh1, .slice qz1 nz1 cz1])
  have HO4 := Lib.hid (show OwnR prE W2.heap.size (w3.setRow w.heap.size #[.int .u8 k1, .string S1, .slice ql1 nl1 cl1, .slice qh1 nh1 nh1, .slice qz1 nz1 cz1]) (.slice qh1 nh1 nh1) d.h from ownR_same ho (fun k hk => setRow_other _ _ _ _ (by have := (ownR_blt ho k hk).1; have := HD.out.sz; omega)))
  have HB4 := Lib.hid (show w.heap.size + 1 + 1 ≤ W2.heap.size ∧ W2.heap.size ≤ (w3.setRow w.heap.size #[.int .u8 k1, .string S1, .slice ql1 nl1 cl1, .slice qh1 nh1 nh1, .slice qz1 nz1 cz1]).heap.size from ⟨HD.out.sz, by simpa using hb3.size⟩)
  generalize W2.heap.size = B at HO4 HB4
  clear hb3 hI ha ho CO HD
  go_upto_region 2 with (with_reducible refine wpList_store_row rfl 26 (.tmp 2) (.tmp 11) rfl w.heap.size #[.int .u8 k1, .string S1, .slice ql1 nl1 cl1, .slice qh1 nh1 nh1, .slice qz1 nz1 cz1] rfl rfl 26 _ HD3.out.bx HCs.out rfl HOn.out ?_)
  clear HD3
  generalize w3.setRow w.heap.size #[.int .u8 k1, .string S1, .slice ql1 nl1 cl1, .slice qh1 nh1 nh1, .slice qz1 nz1 cz1] = w4 at HD4 HI3 HO4 HB4 ⊢
  have b3 := HD4.out.room.c3
  have HF4 := Lib.hid (show Fn0 w (w4.alloc (.cells #[.slice qh1 nh1 nh1] 56)) w4.heap.size #[.int .u8 k1, .string S1, .slice ql1 nl1 cl1, .slice qh1 nh1 nh1, .slice qz1 nz1 cz1] #[.int .u8 0, .string ⟨#[]⟩, .slice none 0 0, .slice none 0 0, .slice none 0 0] ⟨k1, S1, ql1, nl1, cl1, qh1, nh1, nh1, qz1, nz1, cz1, d⟩ B from ⟨HD4.out.keep (Kit.below1 _ _), pv_keep HI3.out (Kit.below1 _ _), HO4.out.keep (Kit.below1 _ _), heap_alloc_last w4 _, HB4.out.2⟩)
  go_upto_region 5 with fail
  generalize w4.alloc (.cells #[.slice qh1 nh1 nh1] 56) = w5 at HF4 ⊢
  generalize w4.heap.size = gh at HF4 HB4 ⊢
  clear b3 HD4 HI3 HO4
  have hc4 := HC.out _ HF4.out.db.bl
  have hc4a := HC.out _ (HF4.out.db.bl.alloc HF4.out.db.bl.size (.cells #[.int .i64 0, .nilFunc] 58))
  have hc4b := HC.out _ (HF4.out.db.bl.drew.alloc HF4.out.db.bl.size (.cells #[.int .i64 0, .nilFunc] 58))
  have HQ4 := Lib.hid (pv_lt HF4.out.pv)
  have HQO := Lib.hid (ownR_blt HF4.out.ow)
  have HS4 := Lib.hid HF4.out.db.sz
  have HGl := Lib.hid HF4.out.lt
  go_cut [7, 8] (fun s6 s7 wx => ∃ gd, s6 = .pointer (some ⟨gd, 0, none⟩) ∧ s7 = .bool true ∧ Hid (Fnd w wx gd gh m fu #[.int .u8 k1, .string S1, .slice ql1 nl1 cl1, .slice qh1 nh1 nh1, .slice qz1 nz1 cz1] #[.int .u8 0, .string ⟨#[]⟩, .slice none 0 0, .slice none 0 0, .slice none 0 0] ⟨k1, S1, ql1, nl1, cl1, qh1, nh1, nh1, qz1, nz1, cz1, d⟩ B))
  case first =>
   go_region_law (first
    | (go_simp; (with_reducible refine (CD.out gh _).mono ?_); rintro e w6 ⟨bm, rfl, hM, hb5⟩; dsimp only
       have hb5' : Below w5.heap.size w5 w6 := by first | exact hb5 | exact b_dr hb5 | exact b_al hb5 | exact b_da hb5
       have HM5 := Lib.hid hM
       have HF5 := Lib.hid (HF4.out.keep hb5')
       have hc5 := HC.out _ HF5.out.db.bl
       have hc5a := HC.out _ (HF5.out.db.bl.alloc HF5.out.db.bl.size (.cells #[.int .i64 0, .nilFunc] 58))
       first
         | (have HZ5 := Lib.hid (show DZ w6 w5.heap.size from dz_al hb5); have HL5 := Lib.hid hb5'.size)
         | (have HZ5 := Lib.hid (show DZ w6 w5.heap.size from dz_da hb5); have HL5 := Lib.hid hb5'.size)
         | (have HL5 := Lib.hid hb5'.size)
       clear hM hb5 hb5')
    | (go_simp; (with_reducible refine (CL.out _).mono ?_); rintro e w7 ⟨rfl, hb6⟩; dsimp only
       have hb6' : Below w6.heap.size w6 w7 := by first | exact hb6 | exact b_dr hb6 | exact b_al hb6 | exact b_da hb6
       have HM6 := Lib.hid (HM5.out.keep hb6')
       have hlk := HLk.out gh w7 _ HM6.out
       have hlk2 := HLk.out gh _ _ (HM6.out.keep (Kit.below1 w7 (.cells #[.int .i64 0, .nilFunc] 58)))
       have HF6 := Lib.hid (HF5.out.keep hb6')
       first
         | (have HF := Lib.hid (show Fnd w (dset w7 w5.heap.size gh m fu) w5.heap.size gh m fu _ _ _ B from fnd_set (HZ5.out.keep hb6') (by have := HS4.out; omega) HGl.out HQ4.out HQO.out HF6.out)
            have hzc := HZ5.out.keep hb6'
            obtain ⟨z0, z1, y0, y1⟩ := dz_facts hzc
            clear hzc)
         | (have hzc : DZ w7 w6.heap.size := by first | exact dz_al hb6 | exact dz_da hb6
            have HF := Lib.hid (show Fnd w (dset w7 w6.heap.size gh m fu) w6.heap.size gh m fu _ _ _ B from fnd_set hzc (by have := HS4.out; have := HL5.out; omega) (Nat.lt_of_lt_of_le HGl.out HL5.out) (fun j hj => Nat.lt_of_lt_of_le (HQ4.out j hj) HL5.out) (fun k hk => ⟨(HQO.out k hk).1, Nat.lt_of_lt_of_le (HQO.out k hk).2 HL5.out⟩) HF6.out)
            obtain ⟨z0, z1, y0, y1⟩ := dz_facts hzc
            clear hzc)
         | (have HF := Lib.hid (fnd_al (m := m) (fu := fu) HF6.out))
       clear hb6 hb6'))
   all_goals
    go_wp2_with fail
    go_meet
    exact ⟨_, rfl, rfl, HF⟩
  case rest =>
  obtain ⟨gd, rfl, rfl, HF⟩ := hcut
  clear HF4 hc4 hc4a hc4b HQ4 HQO HS4 HGl CD CL HLk HC
  rename World => W2
  have HD := Lib.hid HF.out.f0.db
  have HI := Lib.hid HF.out.f0.pv
  have HO := Lib.hid HF.out.f0.ow
  have HHh := Lib.hid HF.out.f0.hh
  have d0 := HF.out.d0
  have d1 := HF.out.d1
  have HBg := Lib.hid HF.out.f0.sz
  have HGl := Lib.hid HF.out.f0.lt
  clear HF
  obtain ⟨-, -, b0, b1, b2, b3, b4⟩ := HD.out.room
  have hK : k1 = (d.kind : Int) := VIn.ek HI.out
  have t0 : (k1 != 0) = true := bne_iff_ne.2 (by have h : d.kind ≠ 0 := HK.out.1; rw [hK]; omega)
  have t1 : (k1 != 3) = true := bne_iff_ne.2 (by have h : d.kind ≠ 3 := HK.out.2; rw [hK]; omega)
  clear hK
  go_wp2_with fail
  go_region_law (first
    | (go_simp; (with_reducible refine (CE.out _ (by first | exact HD.out.bl | exact HD.out.bl.drew) _ ?_).mono ?_); (exact rfl); rintro e w8 ⟨vr, rfl, hA, hb4⟩; dsimp only
       have hb4' : Below W2.heap.size W2 w8 := by first | exact hb4 | exact (Below.refl W2.heap.size W2).drew.trans hb4
       have HD4 := Lib.hid (HD.out.keep hb4')
       have HI4 := Lib.hid (pv_keep HI.out hb4')
       have HA4 := Lib.hid (show Ans W2.heap.size w8 vr _ from hA)
       obtain ⟨-, -, c0, c1, c2, c3, c4⟩ := HD4.out.room
       obtain ⟨-, -, r0, r1, r2, r3, r4⟩ := HD4.out.roomR
       have f0 := HD4.out.roomR.frz 0
       have f1 := HD4.out.roomR.frz 1
       have f2 := HD4.out.roomR.frz 2
       have f3 := HD4.out.roomR.frz 3
       have f4 := HD4.out.roomR.frz 4
       clear hA hb4 hb4'))
  all_goals
    have HHe := Lib.hid (val_five HD4.out.re (.int .u8 k1) (.string S1) (.slice ql1 nl1 cl1) (.slice qh1 nh1 nh1) (.slice qz1 nz1 cz1))
    have HE := Lib.hid (do_five HD4.out ⟨k1, S1, ql1, nl1, cl1, qh1, nh1, nh1, qz1, nz1, cz1, d⟩ (fun _ => False) _ d _ vr HI4.out rfl (fun j hj => Or.inr (by have := HA3.out j hj; omega)) (fun j hj => by have := HA3.out j hj; omega) HA4.out (by have := HD.out.sz; omega))
    go_wp2_with fail
    exact bodyPost_ret (results_cell_slot rfl _ _ (w.heap.size + 1) 26 #[.int .u8 k1, .string S1, .slice ql1 nl1 cl1, .slice qh1 nh1 nh1, .slice qz1 nz1 cz1] (0, 0) _ vr rfl HHe.out Tryd.underlying26 rfl HCs.out rfl) rfl HE.out

set_option maxHeartbeats 16000000 in
/-- Of a hash, or none. -/
theorem do_right (i : Nat) (nm : List UInt8) (m : Int) (fu : FuncId) (hE : ∀ (args : Array Value) (W : World), (callFunc fu args).run Tryd.prog W = .ok (.enter fu args) W) (hV : ∀ gh Z, getM (deedsL gh) nm Z = .agg #[.int .i64 m, .func (.func fu) #[.pointer (some ⟨gh, 0, none⟩)] #[]])
    (hF : ∀ w0 w gh q n H qw nw cw A, HB w0 w gh q n n H → WS w0 qw nw cw A → Gd w0 → Tame i H A → Calls Tryd.prog fu #[.pointer (some ⟨gh, 0, none⟩), .slice qw nw cw] w (HRes w0 gh (rowD i H A)))
    (p : PV) (q : Option Addr) (L : List (List UInt8)) (n c : Nat) (w : World) (hp : p.In w) (hS : p.S.size ≤ 1048576) (hg : Gd w) (hn : L.length = n) (hc2 : n ≤ c) (h0 : 2 ≤ n) (hm : m ≤ n) (hs : StrT.Ss w q L) (hw : (wd L 0).length ≤ 140737488351232) (hnm : nmL L = nm) (hk : p.d.kind = 0 ∨ p.d.kind = 3) (ht : Tame i p.d.h (L.drop 2)) :
    Calls Tryd.prog 11 #[p.agg, .slice q n c] w (DoP (fun _ => False) (hashV (rowD i p.d.h (L.drop 2)).1) (rowD i p.d.h (L.drop 2)).2 w) := by
  obtain ⟨k, S, ql, nl, cl, qh, nh, ch, qz, nz, cz, d⟩ := p
  have CO := Lib.hid (fun W (h : Below w.heap.size w W) => own_pv k S ql nl cl qh nh ch qz nz cz d W (pv_keep hp h))
  have HSd := Lib.hid (show S.data.toList = d.s from VIn.es hp)
  have hSz : S.size ≤ 1048576 := hS
  have HSs := Lib.hid (show d.s.length ≤ 1048576 by rw [← HSd.out, str_len]; exact hSz)
  have HG := Lib.hid (fun W (h : Below w.heap.size w W) => hg.keep h)
  have HD := Lib.hid (DB.new w #[.int .u8 k, .string S, .slice ql nl cl, .slice qh nh ch, .slice qz nz cz] #[.int .u8 0, .string ⟨#[]⟩, .slice none 0 0, .slice none 0 0, .slice none 0 0])
  obtain ⟨T, hT⟩ : ∃ T : ByteArray, T = ⟨(wd L 0).toArray⟩ := ⟨_, rfl⟩
  have hTz : T.size ≤ maxLen := by rw [hT, size_bytes]; unfold maxLen; exact Nat.le_trans hw (by decide)
  have HTd := Lib.hid (show lowL T.data.toList = nm by rw [hT]; exact hnm)
  obtain ⟨b, off, rfl, hbl, hc⟩ := ss_word hs 0 (by omega)
  rw [← hT, Nat.add_zero] at hc
  have HC := Lib.hid (fun W (h : Below w.heap.size w W) => (h.cell (p := ⟨b, off, none⟩) hbl).trans hc)
  have HSt := Lib.hid (fun W (h : Below w.heap.size w W) => hs.keep h)
  have n0 : (0 : Int) < (n : Int) := by omega
  have n00 : 0 < n := by omega
  have n1 : ((n : Int) == 0) = false := by rw [beq_eq_false_iff_ne]; omega
  have n3 : decide ((n : Int) < m) = false := decide_eq_false (by omega)
  have CD := Lib.hid (fun gh W => deeds_bm gh W)
  have CL := Lib.hid (fun W => LowN.lower_any T W hTz)
  rw [HTd.out] at CL
  have HLk := Lib.hid (fun (gh : Nat) (W : World) (bm : Nat) (h : MapAt W bm (deedsL gh)) => lookup_ok Tryd.underlying60 Tryd.underlying9 h ⟨nm.toArray⟩ (.agg #[.int .i64 m, .func (.func fu) #[.pointer (some ⟨gh, 0, none⟩)] #[]]) (hV gh))
  have HK := Lib.hid hk
  have HT := Lib.hid (show Tame i d.h (L.drop 2) from ht)
  have HRz := Lib.hid (show d.h.length ≤ 1048576 from (pv_sizes hp).2.2.1)
  have HN := Lib.hid (show (L.drop 2).length = n - 2 ∧ n - 2 ≤ c - 2 ∧ n ≤ c ∧ L.length = n ∧ 2 ≤ n from ⟨by rw [List.length_drop, hn], by omega, hc2, hn, h0⟩)
  have HG0 := Lib.hid hg
  have s1 : ∀ W, (Instr.slice 22 (.slice (some ⟨b, off, none⟩) n c) (some (.int .i64 2)) none none).run Tryd.prog W = .ok (.slice (StrT.partAt (some ⟨b, off, none⟩) c 2) (n - 2) (c - 2)) W := fun W => StrT.sl_l _ n c 2 h0 hc2 W
  obtain ⟨pw, hpw⟩ : ∃ pw, pw = StrT.partAt (some ⟨b, off, none⟩) c 2 := ⟨_, rfl⟩
  rw [← hpw] at s1
  have HPW := Lib.hid hpw
  clear hpw ht hn hc2
  show Calls Tryd.prog 11 #[.agg #[.int .u8 k, .string S, .slice ql nl cl, .slice qh nh ch, .slice qz nz cz], .slice (some ⟨b, off, none⟩) n c] w _
  clear hp hS hg hT hnm hs hc hw HTd hV
  go_enter Tryd.func11, Tryd.ntmps11
  go_wp2_with fail
  generalize ((w.alloc _).alloc _) = W2 at HD ⊢
  with_reducible refine (CO.out _ HD.out.bl).mono ?_
  rintro e w3 ⟨p1, rfl, hI, hd, ha, hti, ho, hb3⟩
  obtain ⟨k1, S1, ql1, nl1, cl1, qh1, nh1, ch1, qz1, nz1, cz1, d1⟩ := p1
  dsimp only [PV.agg]
  have hti2 : nh1 = ch1 := Eq.symm hti
  clear hti
  subst hti2
  obtain rfl : d1 = d := hd
  rename V => d
  have HCs := Lib.hid (show (Tryd.prog.info? 26).map (·.size) = some (#[.int .u8 k1, .string S1, .slice ql1 nl1 cl1, .slice qh1 nh1 nh1, .slice qz1 nz1 cz1] : Array Value).size from val_size)
  have HOn := Lib.hid (show (#[.int .u8 k1, .string S1, .slice ql1 nl1 cl1, .slice qh1 nh1 nh1, .slice qz1 nz1 cz1] : Array Value).all (·.oneCell') = true by simp [Value.oneCell'])
  have HD3 := Lib.hid (HD.out.keep hb3)
  have HA3 := Lib.hid (show ∀ j, PV.at_ ⟨k1, S1, ql1, nl1, cl1, qh1, nh1, nh1, qz1, nz1, cz1, d⟩ j → w.heap.size + 1 < j from fun j hj => by have := ha j hj; have := HD.out.sz; omega)
  have HI3 := Lib.hid (show PV.In (w3.setRow w.heap.size #[.int .u8 k1, .string S1, .slice ql1 nl1 cl1, .slice qh1 nh1 nh1, .slice qz1 nz1 cz1]) ⟨k1, S1, ql1, nl1, cl1, qh1, nh1, nh1, qz1, nz1, cz1, d⟩ from PV.In.same hI (by simp) (fun j hj => setRow_other _ _ _ _ (by have := HA3.out j hj; omega)))
  have HD4 := Lib.hid (HD3.out.setBox #[.int .u8 k1, .string S1, .slice ql1 nl1 cl1, .slice qh1 nh1 nh1, .slice qz1 nz1 cz1])
  have HO4 := Lib.hid (show OwnR prE W2.heap.size (w3.setRow w.heap.size #[.int .u8 k1, .string S1, .slice ql1 nl1 cl1, .slice qh1 nh1 nh1, .slice qz1 nz1 cz1]) (.slice qh1 nh1 nh1) d.h from ownR_same ho (fun k hk => setRow_other _ _ _ _ (by have := (ownR_blt ho k hk).1; have := HD.out.sz; omega)))
  have HB4 := Lib.hid (show w.heap.size + 1 + 1 ≤ W2.heap.size ∧ W2.heap.size ≤ (w3.setRow w.heap.size #[.int .u8 k1, .string S1, .slice ql1 nl1 cl1, .slice qh1 nh1 nh1, .slice qz1 nz1 cz1]).heap.size from ⟨HD.out.sz, by simpa using hb3.size⟩)
  generalize W2.heap.size = B at HO4 HB4
  clear hb3 hI ha ho CO HD
  go_upto_region 2 with (with_reducible refine wpList_store_row rfl 26 (.tmp 2) (.tmp 11) rfl w.heap.size #[.int .u8 k1, .string S1, .slice ql1 nl1 cl1, .slice qh1 nh1 nh1, .slice qz1 nz1 cz1] rfl rfl 26 _ HD3.out.bx HCs.out rfl HOn.out ?_)
  clear HD3
  generalize w3.setRow w.heap.size #[.int .u8 k1, .string S1, .slice ql1 nl1 cl1, .slice qh1 nh1 nh1, .slice qz1 nz1 cz1] = w4 at HD4 HI3 HO4 HB4 ⊢
  have b3 := HD4.out.room.c3
  have HF4 := Lib.hid (show Fn0 w (w4.alloc (.cells #[.slice qh1 nh1 nh1] 56)) w4.heap.size #[.int .u8 k1, .string S1, .slice ql1 nl1 cl1, .slice qh1 nh1 nh1, .slice qz1 nz1 cz1] #[.int .u8 0, .string ⟨#[]⟩, .slice none 0 0, .slice none 0 0, .slice none 0 0] ⟨k1, S1, ql1, nl1, cl1, qh1, nh1, nh1, qz1, nz1, cz1, d⟩ B from ⟨HD4.out.keep (Kit.below1 _ _), pv_keep HI3.out (Kit.below1 _ _), HO4.out.keep (Kit.below1 _ _), heap_alloc_last w4 _, HB4.out.2⟩)
  go_upto_region 5 with fail
  generalize w4.alloc (.cells #[.slice qh1 nh1 nh1] 56) = w5 at HF4 ⊢
  generalize w4.heap.size = gh at HF4 HB4 ⊢
  clear b3 HD4 HI3 HO4
  have hc4 := HC.out _ HF4.out.db.bl
  have hc4a := HC.out _ (HF4.out.db.bl.alloc HF4.out.db.bl.size (.cells #[.int .i64 0, .nilFunc] 58))
  have hc4b := HC.out _ (HF4.out.db.bl.drew.alloc HF4.out.db.bl.size (.cells #[.int .i64 0, .nilFunc] 58))
  have HQ4 := Lib.hid (pv_lt HF4.out.pv)
  have HQO := Lib.hid (ownR_blt HF4.out.ow)
  have HS4 := Lib.hid HF4.out.db.sz
  have HGl := Lib.hid HF4.out.lt
  go_cut [7, 8] (fun s6 s7 wx => ∃ gd, s6 = .pointer (some ⟨gd, 0, none⟩) ∧ s7 = .bool true ∧ Hid (Fnd w wx gd gh m fu #[.int .u8 k1, .string S1, .slice ql1 nl1 cl1, .slice qh1 nh1 nh1, .slice qz1 nz1 cz1] #[.int .u8 0, .string ⟨#[]⟩, .slice none 0 0, .slice none 0 0, .slice none 0 0] ⟨k1, S1, ql1, nl1, cl1, qh1, nh1, nh1, qz1, nz1, cz1, d⟩ B))
  case first =>
   go_region_law (first
    | (go_simp; (with_reducible refine (CD.out gh _).mono ?_); rintro e w6 ⟨bm, rfl, hM, hb5⟩; dsimp only
       have hb5' : Below w5.heap.size w5 w6 := by first | exact hb5 | exact b_dr hb5 | exact b_al hb5 | exact b_da hb5
       have HM5 := Lib.hid hM
       have HF5 := Lib.hid (HF4.out.keep hb5')
       have hc5 := HC.out _ HF5.out.db.bl
       have hc5a := HC.out _ (HF5.out.db.bl.alloc HF5.out.db.bl.size (.cells #[.int .i64 0, .nilFunc] 58))
       first
         | (have HZ5 := Lib.hid (show DZ w6 w5.heap.size from dz_al hb5); have HL5 := Lib.hid hb5'.size)
         | (have HZ5 := Lib.hid (show DZ w6 w5.heap.size from dz_da hb5); have HL5 := Lib.hid hb5'.size)
         | (have HL5 := Lib.hid hb5'.size)
       clear hM hb5 hb5')
    | (go_simp; (with_reducible refine (CL.out _).mono ?_); rintro e w7 ⟨rfl, hb6⟩; dsimp only
       have hb6' : Below w6.heap.size w6 w7 := by first | exact hb6 | exact b_dr hb6 | exact b_al hb6 | exact b_da hb6
       have HM6 := Lib.hid (HM5.out.keep hb6')
       have hlk := HLk.out gh w7 _ HM6.out
       have hlk2 := HLk.out gh _ _ (HM6.out.keep (Kit.below1 w7 (.cells #[.int .i64 0, .nilFunc] 58)))
       have HF6 := Lib.hid (HF5.out.keep hb6')
       first
         | (have HF := Lib.hid (show Fnd w (dset w7 w5.heap.size gh m fu) w5.heap.size gh m fu _ _ _ B from fnd_set (HZ5.out.keep hb6') (by have := HS4.out; omega) HGl.out HQ4.out HQO.out HF6.out)
            have hzc := HZ5.out.keep hb6'
            obtain ⟨z0, z1, y0, y1⟩ := dz_facts hzc
            clear hzc)
         | (have hzc : DZ w7 w6.heap.size := by first | exact dz_al hb6 | exact dz_da hb6
            have HF := Lib.hid (show Fnd w (dset w7 w6.heap.size gh m fu) w6.heap.size gh m fu _ _ _ B from fnd_set hzc (by have := HS4.out; have := HL5.out; omega) (Nat.lt_of_lt_of_le HGl.out HL5.out) (fun j hj => Nat.lt_of_lt_of_le (HQ4.out j hj) HL5.out) (fun k hk => ⟨(HQO.out k hk).1, Nat.lt_of_lt_of_le (HQO.out k hk).2 HL5.out⟩) HF6.out)
            obtain ⟨z0, z1, y0, y1⟩ := dz_facts hzc
            clear hzc)
         | (have HF := Lib.hid (fnd_al (m := m) (fu := fu) HF6.out))
       clear hb6 hb6'))
   all_goals
    go_wp2_with fail
    go_meet
    exact ⟨_, rfl, rfl, HF⟩
  case rest =>
  obtain ⟨gd, rfl, rfl, HF⟩ := hcut
  clear HF4 hc4 hc4a hc4b HQ4 HQO HS4 HGl CD CL HLk HC
  rename World => W2
  have HD := Lib.hid HF.out.f0.db
  have HI := Lib.hid HF.out.f0.pv
  have HO := Lib.hid HF.out.f0.ow
  have HHh := Lib.hid HF.out.f0.hh
  have d0 := HF.out.d0
  have d1 := HF.out.d1
  have HBg := Lib.hid HF.out.f0.sz
  have HGl := Lib.hid HF.out.f0.lt
  clear HF
  obtain ⟨-, -, b0, b1, b2, b3, b4⟩ := HD.out.room
  have hK : k1 = (d.kind : Int) := VIn.ek HI.out
  obtain ⟨w0, hws, hd0, hb0⟩ := db_cut HD.out B HB4.out.1 (Nat.le_trans HBg.out (Nat.le_of_lt HGl.out))
  subst hws
  have HD0 := Lib.hid hd0
  have HHb := Lib.hid (show HB w0 W2 gh qh1 nh1 nh1 d.h from ⟨hb0, HBg.out, HHh.out, HO.out, VIn.lh HI.out, HT.out.1, VIn.fh HI.out⟩)
  have HWs := Lib.hid (show WS w0 pw (n - 2) (c - 2) (L.drop 2) from ⟨HN.out.1, HN.out.2.1, by rw [HPW.out]; exact StrT.Ss.drop (HSt.out _ hd0.bl) 2 (by rw [HN.out.2.2.2.1]; exact HN.out.2.2.2.2) c (by rw [HN.out.2.2.2.1]; exact HN.out.2.2.1)⟩)
  have C := Lib.hid (hF w0 W2 gh qh1 nh1 d.h pw (n - 2) (c - 2) (L.drop 2) HHb.out HWs.out (HG0.out.keep hd0.bl) HT.out)
  have C' := Lib.hid (hF w0 W2.drew gh qh1 nh1 d.h pw (n - 2) (c - 2) (L.drop 2) (by have h := HHb.out; exact ⟨h.bl.drew, h.ge, h.hp, h.ow, h.ln, h.up, h.lm⟩) HWs.out (HG0.out.keep hd0.bl) HT.out)
  obtain ⟨Z, hZ⟩ : ∃ Z, Z = rowD i d.h (L.drop 2) := ⟨_, rfl⟩
  rw [← hZ] at C C'
  have HZ := Lib.hid hZ
  have HSz := Lib.hid HD0.out.sz
  clear hZ
  have tt : (k1 != 0) = false ∨ (k1 != 0) = true ∧ (k1 != 3) = false := by
    rcases HK.out with h | h
    · left; rw [hK, show d.kind = 0 from h]; rfl
    · right; rw [hK, show d.kind = 3 from h]; exact ⟨rfl, rfl⟩
  clear hK hd0 hb0 HK HT HN HG HSt HPW HO HI HA3 HHb HWs HG0 HRz
  rcases tt with t0 | ⟨t0, t1⟩
  all_goals
    go_wp2_with fail
    go_region_law (first
      | (go_simp; (with_reducible refine (by first | exact C.out | exact C'.out : Calls _ _ _ _ _).mono ?_); rintro e w8 ⟨vr, q5, n5, c5, rfl, hB5, hA5⟩; dsimp only
         have HB5 := Lib.hid hB5
         have HA5 := Lib.hid hA5
         clear hB5 hA5))
    all_goals
      have HL5 := Lib.hid (m_value w0 w8 gh q5 n5 c5 Z.1 HB5.out)
      have HD5 := Lib.hid (HD0.out.keep HB5.out.bl)
      go_wp2_with fail
      with_reducible refine HL5.out.mono ?_
      rintro e w9 ⟨p2, rfl, hI2, hd2, ha2, hb6⟩
      obtain ⟨k2, S2, ql2, nl2, cl2, qh2, nh2, ch2, qz2, nz2, cz2, d2⟩ := p2
      dsimp only [PV.agg]
      have HD6 := Lib.hid (HD5.out.keep hb6)
      have HA6 := Lib.hid (HA5.out.keep hb6)
      have HI6 := Lib.hid hI2
      have HE6 := Lib.hid (show d2 = _ from hd2)
      have HT6 := Lib.hid ha2
      have HCs2 := Lib.hid (show (Tryd.prog.info? 26).map (·.size) = some (#[.int .u8 k2, .string S2, .slice ql2 nl2 cl2, .slice qh2 nh2 ch2, .slice qz2 nz2 cz2] : Array Value).size from val_size)
      have HOn2 := Lib.hid (show (#[.int .u8 k2, .string S2, .slice ql2 nl2 cl2, .slice qh2 nh2 ch2, .slice qz2 nz2 cz2] : Array Value).all (·.oneCell') = true by simp [Value.oneCell'])
      clear hb6 hI2 hd2 ha2 HL5 HD5 HA5
      go_wp2_with (with_reducible refine wpList_store_row rfl 26 (.tmp 4) (.tmp 53) rfl (w.heap.size + 1) #[.int .u8 k2, .string S2, .slice ql2 nl2 cl2, .slice qh2 nh2 ch2, .slice qz2 nz2 cz2] rfl rfl 26 _ HD6.out.re HCs2.out rfl HOn2.out ?_)
      exact bodyPost_ret (results_cell_slot rfl _ _ (w.heap.size + 1) 26 #[.int .u8 k2, .string S2, .slice ql2 nl2 cl2, .slice qh2 nh2 ch2, .slice qz2 nz2 cz2] (0, 0) _ vr rfl (setRow_heap w9 (w.heap.size + 1) _ _ _ _ HD6.out.re) Tryd.underlying26 rfl HCs2.out rfl) rfl (by rw [← HZ.out]; exact do_row HD6.out ⟨k2, S2, ql2, nl2, cl2, qh2, nh2, ch2, qz2, nz2, cz2, d2⟩ _ _ _ _ vr HI6.out HE6.out (fun j hj => Or.inr (by have := HT6.out j hj; have := HSz.out; omega)) (fun j hj => by have := HT6.out j hj; have := HSz.out; omega) HA6.out (by have := HSz.out; have := HBg.out; omega) _)

end Go.Proofs.YtjikppjlkicgpaaDoor.HasM
namespace Go.Proofs.YtjikppjlkicgpaaDoor.HasM
open Go.RowKit Kit StrT RowG BOrd ValT StoT ReplyT ReplyMath ValM BytesIn DoT Low MapT LstT HasT NumL NumW ReplyM DoV
set_option linter.unusedVariables false
set_option maxRecDepth 100000

theorem do_any (i : Nat) (hi : i < 6) (p : PV) (q : Option Addr) (L : List (List UInt8)) (n c : Nat) (w : World) (hp : p.In w) (hS : p.S.size ≤ 1048576) (hg : Gd w) (hn : L.length = n) (hc : n ≤ c) (hm : needD i ≤ n) (hs : StrT.Ss w q L) (hw : (wd L 0).length ≤ 140737488351232) (hnm : nmL L = nameD i) (ht : (p.d.kind = 0 ∨ p.d.kind = 3) → Tame i p.d.h (L.drop 2)) :
    Calls Tryd.prog 11 #[p.agg, .slice q n c] w (DoN (doD i p.d L).1 (doD i p.d L).2 w) := by
  have h2 : 2 ≤ needD i := by unfold needD; split <;> omega
  refine Calls.mono ?_ (fun e w' h => doP_n h)
  rcases kinds p.d with hk | hk
  · rw [doD_right hk]
    have ht := ht hk
    match i, hi, hm, ht, hnm with
    | 0, _, hm, ht, hnm => exact do_right 0 nHset 4 33 (fun args W => by kernel_rfl) (fun gh Z => by kernel_rfl) (fun w0 w gh q n H qw nw cw A h1 h2 h3 h4 => m_set w0 w gh q n H qw nw cw A h1 h2 h3 h4) p q L n c w hp hS hg hn hc (by omega) (by have : 4 ≤ n := hm; omega) hs hw hnm hk ht
    | 1, _, hm, ht, hnm => exact do_right 1 nHget 3 34 (fun args W => by kernel_rfl) (fun gh Z => by kernel_rfl) (fun w0 w gh q n H qw nw cw A h1 h2 h3 h4 => m_get w0 w gh q n H qw nw cw A h1 h2 h3 h4) p q L n c w hp hS hg hn hc (by omega) (by have : 3 ≤ n := hm; omega) hs hw hnm hk ht
    | 2, _, hm, ht, hnm => exact do_right 2 nHdel 3 35 (fun args W => by kernel_rfl) (fun gh Z => by kernel_rfl) (fun w0 w gh q n H qw nw cw A h1 h2 h3 h4 => m_del w0 w gh q n H qw nw cw A h1 h2 h3 h4) p q L n c w hp hS hg hn hc (by omega) (by have : 3 ≤ n := hm; omega) hs hw hnm hk ht
    | 3, _, hm, ht, hnm => exact do_right 3 nHlen 2 36 (fun args W => by kernel_rfl) (fun gh Z => by kernel_rfl) (fun w0 w gh q n H qw nw cw A h1 h2 h3 h4 => m_length w0 w gh q n H qw nw cw A h1 h2 h3 h4) p q L n c w hp hS hg hn hc (by omega) (by have : 2 ≤ n := hm; omega) hs hw hnm hk ht
    | 4, _, hm, ht, hnm => exact do_right 4 nHgetall 2 37 (fun args W => by kernel_rfl) (fun gh Z => by kernel_rfl) (fun w0 w gh q n H qw nw cw A h1 h2 h3 h4 => m_all w0 w gh q n H qw nw cw A h1 h2 h3 h4) p q L n c w hp hS hg hn hc (by omega) (by have : 2 ≤ n := hm; omega) hs hw hnm hk ht
    | 5, _, hm, ht, hnm => exact do_right 5 nHincrby 4 38 (fun args W => by kernel_rfl) (fun gh Z => by kernel_rfl) (fun w0 w gh q n H qw nw cw A h1 h2 h3 h4 => m_incrBy w0 w gh q n H qw nw cw A h1 h2 h3 h4) p q L n c w hp hS hg hn hc (by omega) (by have : 4 ≤ n := hm; omega) hs hw hnm hk ht
  · rw [doD_wrong hk]
    match i, hi, hm, hnm with
    | 0, _, hm, hnm => exact do_wrong nHset 4 33 (fun gh Z => by kernel_rfl) p q L n c w hp hS hg hn (by omega) (by have : 4 ≤ n := hm; omega) hs hw hnm hk
    | 1, _, hm, hnm => exact do_wrong nHget 3 34 (fun gh Z => by kernel_rfl) p q L n c w hp hS hg hn (by omega) (by have : 3 ≤ n := hm; omega) hs hw hnm hk
    | 2, _, hm, hnm => exact do_wrong nHdel 3 35 (fun gh Z => by kernel_rfl) p q L n c w hp hS hg hn (by omega) (by have : 3 ≤ n := hm; omega) hs hw hnm hk
    | 3, _, hm, hnm => exact do_wrong nHlen 2 36 (fun gh Z => by kernel_rfl) p q L n c w hp hS hg hn (by omega) (by have : 2 ≤ n := hm; omega) hs hw hnm hk
    | 4, _, hm, hnm => exact do_wrong nHgetall 2 37 (fun gh Z => by kernel_rfl) p q L n c w hp hS hg hn (by omega) (by have : 2 ≤ n := hm; omega) hs hw hnm hk
    | 5, _, hm, hnm => exact do_wrong nHincrby 4 38 (fun gh Z => by kernel_rfl) p q L n c w hp hS hg hn (by omega) (by have : 4 ≤ n := hm; omega) hs hw hnm hk

end Go.Proofs.YtjikppjlkicgpaaDoor.HasM
