/-
  The landed code of layer 11: what each command does with a text.
-/
import Derived.Test.YthiaflnlmabikaaDoorTxtMath
import Derived.Test.YthiaflnlmabikaaDoorDoRow
import Derived.Test.YthiaflnlmabikaaDoorReplyLine
import Derived.Test.YthiaflnlmabikaaDoorRefTabs
import Derived.Deep.RegionLaw
import Derived.Deep.WholeRow
import Derived.Deep.QuietTactic
import Derived.BigQuiet
namespace Go.Proofs.YthiaflnlmabikaaDoor.TxtM
open Go.RowKit Kit StrT RowG BOrd ValT StoT ReplyT ReplyMath ValM BytesIn DoT TxtT NumL NumW ReplyM
open RefTab (results_cell_slot)
set_option linter.unusedVariables false
set_option maxRecDepth 100000

theorem kind_eq {k : Int} {d : V} (h : k = (d.kind : Int)) (n : Nat) : (d.kind = n → (k == (n : Int)) = true) ∧ (d.kind ≠ n → (k == (n : Int)) = false) :=
  ⟨fun e => by rw [beq_iff_eq]; omega, fun e => by rw [beq_eq_false_iff_ne]; omega⟩
theorem add_str (a b : ByteArray) (h : a.size + b.size ≤ 9223372036854775807) (W : World) : (Op.stringOp .add a b).run Tryd.prog W = .ok (.string (a ++ b)) W := run_string_add_sum W a b h
theorem ss_word {w : World} {q : Option Addr} {L : List (List UInt8)} (h : StrT.Ss w q L) (j : Nat) (hj : j < L.length) : ∃ b off, q = some ⟨b, off, none⟩ ∧ b < w.heap.size ∧ w.cell? ⟨b, off + j, none⟩ = some (.string ⟨(wd L j).toArray⟩) := by
  obtain ⟨b, off, e, hlt, hc⟩ := h (by omega)
  refine ⟨b, off, e, hlt, ?_⟩
  rw [hc j hj]
  unfold wd
  rw [List.getD_eq_getElem?_getD, List.getElem?_eq_getElem hj]
  rfl
theorem err_to (s : ByteArray) (l : List UInt8) (hs : s.data.toList = l) (hl : l.length ≤ 1048576) (W : World) (hg : Gt W) : Calls Tryd.prog 27 #[.string s] W (Gives (err l) W) := by
  subst hs
  exact err_any s W (by rw [← str_len]; exact hl) hg
theorem below_drewN {B : Nat} {a w : World} (h : Below B a w) (q : Nat) : Below B a (w.drewN q) := h.trans ⟨rfl, rfl, rfl, Nat.le_refl _, fun _ _ => rfl⟩
theorem vt_eq (S : ByteArray) (l : List UInt8) (h : S.data.toList = l) : (pvT S).d = textV l := by subst h; rfl

set_option maxHeartbeats 4000000 in
theorem text_any (s : ByteArray) (w : World) : Calls Tryd.prog 43 #[.string s] w fun e w' => e = .returned (pvT s).agg ∧ Below w.heap.size w w' := by
  have HCs := Lib.hid (show (Tryd.prog.info? 26).map (·.size) = some (#[.int .u8 1, .string s, .slice none 0 0, .slice none 0 0, .slice none 0 0] : Array Value).size from val_size)
  go_enter Tryd.func43, Tryd.ntmps43
  go_wp2_with fail
  exact bodyPost_ret (results_cell_row rfl _ _ w.heap.size 26 #[.int .u8 1, .string s, .slice none 0 0, .slice none 0 0, .slice none 0 0] (0, 0) _ rfl (heap_alloc_last w _) Tryd.underlying26 rfl HCs.out) rfl ⟨rfl, (Below.refl _ _).alloc (Nat.le_refl _) _⟩

set_option maxHeartbeats 4000000 in
theorem get_any (p : PV) (va : Value) (w : World) (hp : p.In w) (hS : p.S.size ≤ 1048576) (hg : Gt w) : Calls Tryd.prog 32 #[p.agg, va] w (DoP p.at_ p.d (getR p.d) w) := by
  obtain ⟨k, S, ql, nl, cl, qh, nh, ch, qz, nz, cz, d⟩ := p
  have HP := Lib.hid hp
  have HK := Lib.hid (show k = (d.kind : Int) from VIn.ek hp)
  have HLt := Lib.hid (pv_lt hp)
  have HSd := Lib.hid (show S.data.toList = d.s from VIn.es hp)
  have hSz : S.size ≤ 1048576 := hS
  have HD := Lib.hid (DB.new w #[.int .u8 k, .string S, .slice ql nl cl, .slice qh nh ch, .slice qz nz cz] #[.int .u8 0, .string ⟨#[]⟩, .slice none 0 0, .slice none 0 0, .slice none 0 0])
  have HCs := Lib.hid (show (Tryd.prog.info? 26).map (·.size) = some (#[.int .u8 k, .string S, .slice ql nl cl, .slice qh nh ch, .slice qz nz cz] : Array Value).size from val_size)
  have HOn := Lib.hid (show (#[.int .u8 k, .string S, .slice ql nl cl, .slice qh nh ch, .slice qz nz cz] : Array Value).all (·.oneCell') = true by simp [Value.oneCell'])
  have CN := Lib.hid (fun W (h : Below w.heap.size w W) => null_any W (hg.keep h))
  have CB := Lib.hid (fun W (h : Below w.heap.size w W) => bulk_any S W hS (hg.keep h))
  rw [HSd.out] at CB
  show Calls Tryd.prog 32 #[.agg #[.int .u8 k, .string S, .slice ql nl cl, .slice qh nh ch, .slice qz nz cz], va] w _
  by_cases h0 : d.kind = 0
  · have t0 : (k == 0) = true := (kind_eq HK.out 0).1 h0
    have HR := Lib.hid (show getR d = null from if_pos h0)
    clear hp hS hg h0 CB
    go_enter Tryd.func32, Tryd.ntmps32
    go_wp2_with fail
    generalize ((w.alloc _).alloc _) = W2 at HD ⊢
    obtain ⟨-, -, b0, b1, b2, b3, b4⟩ := HD.out.room
    go_region_law (first
      | (go_simp; (with_reducible refine (CN.out _ (by first | exact HD.out.bl | exact HD.out.bl.drew)).mono ?_); rintro e w4 ⟨vr, rfl, hA, hb4⟩; dsimp only
         have hb4' : Below W2.heap.size W2 w4 := by first | exact hb4 | exact (Below.refl W2.heap.size W2).drew.trans hb4
         have HD4 := Lib.hid (HD.out.keep hb4')
         have HA4 := Lib.hid (show Ans W2.heap.size w4 vr _ from hA)
         obtain ⟨-, -, c0, c1, c2, c3, c4⟩ := HD4.out.room
         obtain ⟨-, -, r0, r1, r2, r3, r4⟩ := HD4.out.roomR
         have f0 := HD4.out.roomR.frz 0
         have f1 := HD4.out.roomR.frz 1
         have f2 := HD4.out.roomR.frz 2
         have f3 := HD4.out.roomR.frz 3
         have f4 := HD4.out.roomR.frz 4
         clear hA hb4 hb4'))
    all_goals
      have HHe := Lib.hid (val_five HD4.out.re (.int .u8 k) (.string S) (.slice ql nl cl) (.slice qh nh ch) (.slice qz nz cz))
      have HE := Lib.hid (do_five HD4.out ⟨k, S, ql, nl, cl, qh, nh, ch, qz, nz, cz, d⟩ (PV.at_ ⟨k, S, ql, nl, cl, qh, nh, ch, qz, nz, cz, d⟩) _ d _ vr (pv_keep HP.out HD4.out.bl) rfl (fun j hj => Or.inl hj) (fun j hj => by have := HLt.out j hj; omega) HA4.out (by have := HD.out.sz; omega))
      go_wp2_with fail
      exact bodyPost_ret (results_cell_slot rfl _ _ (w.heap.size + 1) 26 #[.int .u8 k, .string S, .slice ql nl cl, .slice qh nh ch, .slice qz nz cz] (0, 0) _ vr rfl HHe.out Tryd.underlying26 rfl HCs.out rfl) rfl (by rw [HR.out]; exact HE.out)
  · have t0 : (k == 0) = false := (kind_eq HK.out 0).2 h0
    have HR := Lib.hid (show getR d = bulk d.s from if_neg h0)
    clear hp hS hg h0 CN
    go_enter Tryd.func32, Tryd.ntmps32
    go_wp2_with fail
    generalize ((w.alloc _).alloc _) = W2 at HD ⊢
    obtain ⟨-, -, b0, b1, b2, b3, b4⟩ := HD.out.room
    go_region_law (first
      | (go_simp; (with_reducible refine (CB.out _ (by first | exact HD.out.bl | exact HD.out.bl.drew)).mono ?_); rintro e w4 ⟨vr, rfl, hA, hb4⟩; dsimp only
         have hb4' : Below W2.heap.size W2 w4 := by first | exact hb4 | exact (Below.refl W2.heap.size W2).drew.trans hb4
         have HD4 := Lib.hid (HD.out.keep hb4')
         have HA4 := Lib.hid (show Ans W2.heap.size w4 vr _ from hA)
         obtain ⟨-, -, c0, c1, c2, c3, c4⟩ := HD4.out.room
         obtain ⟨-, -, r0, r1, r2, r3, r4⟩ := HD4.out.roomR
         have f0 := HD4.out.roomR.frz 0
         have f1 := HD4.out.roomR.frz 1
         have f2 := HD4.out.roomR.frz 2
         have f3 := HD4.out.roomR.frz 3
         have f4 := HD4.out.roomR.frz 4
         clear hA hb4 hb4'))
    all_goals
      have HHe := Lib.hid (val_five HD4.out.re (.int .u8 k) (.string S) (.slice ql nl cl) (.slice qh nh ch) (.slice qz nz cz))
      have HE := Lib.hid (do_five HD4.out ⟨k, S, ql, nl, cl, qh, nh, ch, qz, nz, cz, d⟩ (PV.at_ ⟨k, S, ql, nl, cl, qh, nh, ch, qz, nz, cz, d⟩) _ d _ vr (pv_keep HP.out HD4.out.bl) rfl (fun j hj => Or.inl hj) (fun j hj => by have := HLt.out j hj; omega) HA4.out (by have := HD.out.sz; omega))
      go_wp2_with fail
      exact bodyPost_ret (results_cell_slot rfl _ _ (w.heap.size + 1) 26 #[.int .u8 k, .string S, .slice ql nl cl, .slice qh nh ch, .slice qz nz cz] (0, 0) _ vr rfl HHe.out Tryd.underlying26 rfl HCs.out rfl) rfl (by rw [HR.out]; exact HE.out)

set_option maxHeartbeats 4000000 in
theorem length_any (p : PV) (va : Value) (w : World) (hp : p.In w) (hS : p.S.size ≤ 1048576) (hg : Gt w) : Calls Tryd.prog 35 #[p.agg, va] w (DoP p.at_ p.d (int (p.d.s.length : Int)) w) := by
  obtain ⟨k, S, ql, nl, cl, qh, nh, ch, qz, nz, cz, d⟩ := p
  have HP := Lib.hid hp
  have HK := Lib.hid (show k = (d.kind : Int) from VIn.ek hp)
  have HLt := Lib.hid (pv_lt hp)
  have HSd := Lib.hid (show S.data.toList = d.s from VIn.es hp)
  have hSz : S.size ≤ 1048576 := hS
  have HD := Lib.hid (DB.new w #[.int .u8 k, .string S, .slice ql nl cl, .slice qh nh ch, .slice qz nz cz] #[.int .u8 0, .string ⟨#[]⟩, .slice none 0 0, .slice none 0 0, .slice none 0 0])
  have HCs := Lib.hid (show (Tryd.prog.info? 26).map (·.size) = some (#[.int .u8 k, .string S, .slice ql nl cl, .slice qh nh ch, .slice qz nz cz] : Array Value).size from val_size)
  have HOn := Lib.hid (show (#[.int .u8 k, .string S, .slice ql nl cl, .slice qh nh ch, .slice qz nz cz] : Array Value).all (·.oneCell') = true by simp [Value.oneCell'])
  have CN := Lib.hid (fun W (h : Below w.heap.size w W) => int_any (S.size : Int) W (by omega) (by omega) (hg.keep h))
  have HR := Lib.hid (show int (d.s.length : Int) = int (S.size : Int) by rw [← HSd.out, str_len])
  show Calls Tryd.prog 35 #[.agg #[.int .u8 k, .string S, .slice ql nl cl, .slice qh nh ch, .slice qz nz cz], va] w _
  clear hp hS hg
  go_enter Tryd.func35, Tryd.ntmps35
  go_wp2_with fail
  generalize ((w.alloc _).alloc _) = W2 at HD ⊢
  obtain ⟨-, -, b0, b1, b2, b3, b4⟩ := HD.out.room
  go_region_law (first
    | (go_simp; (with_reducible refine (CN.out _ (by first | exact HD.out.bl | exact HD.out.bl.drew)).mono ?_); rintro e w4 ⟨vr, rfl, hA, hb4⟩; dsimp only
       have hb4' : Below W2.heap.size W2 w4 := by first | exact hb4 | exact (Below.refl W2.heap.size W2).drew.trans hb4
       have HD4 := Lib.hid (HD.out.keep hb4')
       have HA4 := Lib.hid (show Ans W2.heap.size w4 vr _ from hA)
       obtain ⟨-, -, c0, c1, c2, c3, c4⟩ := HD4.out.room
       obtain ⟨-, -, r0, r1, r2, r3, r4⟩ := HD4.out.roomR
       have f0 := HD4.out.roomR.frz 0
       have f1 := HD4.out.roomR.frz 1
       have f2 := HD4.out.roomR.frz 2
       have f3 := HD4.out.roomR.frz 3
       have f4 := HD4.out.roomR.frz 4
       clear hA hb4 hb4'))
  all_goals
    have HHe := Lib.hid (val_five HD4.out.re (.int .u8 k) (.string S) (.slice ql nl cl) (.slice qh nh ch) (.slice qz nz cz))
    have HE := Lib.hid (do_five HD4.out ⟨k, S, ql, nl, cl, qh, nh, ch, qz, nz, cz, d⟩ (PV.at_ ⟨k, S, ql, nl, cl, qh, nh, ch, qz, nz, cz, d⟩) _ d _ vr (pv_keep HP.out HD4.out.bl) rfl (fun j hj => Or.inl hj) (fun j hj => by have := HLt.out j hj; omega) HA4.out (by have := HD.out.sz; omega))
    go_wp2_with fail
    exact bodyPost_ret (results_cell_slot rfl _ _ (w.heap.size + 1) 26 #[.int .u8 k, .string S, .slice ql nl cl, .slice qh nh ch, .slice qz nz cz] (0, 0) _ vr rfl HHe.out Tryd.underlying26 rfl HCs.out rfl) rfl (by rw [HR.out]; exact HE.out)

set_option maxHeartbeats 4000000 in
theorem number_any (p : PV) (w : World) (hp : p.In w) (hS : p.S.size ≤ 1048576) (hg : Gd w) : Calls Tryd.prog 50 #[p.agg] w fun e w' => e = .returned (.tuple #[.int .i64 (numV p.d), .bool (numB p.d)]) ∧ Below w.heap.size w w' := by
  obtain ⟨k, S, ql, nl, cl, qh, nh, ch, qz, nz, cz, d⟩ := p
  have HK := Lib.hid (show k = (d.kind : Int) from VIn.ek hp)
  have HSd := Lib.hid (show S.data.toList = d.s from VIn.es hp)
  have CP := Lib.hid (fun W (h : Below w.heap.size w W) => parse_any S (Nat.le_trans hS (by decide)) W (hg.keep h))
  rw [HSd.out] at CP
  have HB := Lib.hid ((Below.refl w.heap.size w).alloc (Nat.le_refl _) (.cells #[.int .u8 k, .string S, .slice ql nl cl, .slice qh nh ch, .slice qz nz cz] 26))
  show Calls Tryd.prog 50 #[.agg #[.int .u8 k, .string S, .slice ql nl cl, .slice qh nh ch, .slice qz nz cz]] w _
  by_cases h0 : d.kind = 0
  · have t0 : (k == 0) = true := (kind_eq HK.out 0).1 h0
    have HV := Lib.hid (show numV d = 0 ∧ numB d = true from ⟨if_pos h0, if_pos h0⟩)
    clear hp hS hg h0 CP
    go_enter Tryd.func50, Tryd.ntmps50
    go_wp2_with fail
    go_ret2
    exact ⟨ret_ib HV.out.1.symm HV.out.2.symm, HB.out⟩
  · have t0 : (k == 0) = false := (kind_eq HK.out 0).2 h0
    have HV := Lib.hid (show numV d = pV d.s ∧ numB d = pB d.s from ⟨if_neg h0, if_neg h0⟩)
    clear hp hS hg h0
    go_enter Tryd.func50, Tryd.ntmps50
    go_wp2_with fail
    generalize w.alloc _ = W2 at HB ⊢
    with_reducible refine (CP.out _ HB.out).mono ?_
    rintro e w4 ⟨rfl, hb4⟩
    go_wp2_with fail
    go_ret2
    exact ⟨ret_ib HV.out.1.symm HV.out.2.symm, HB.out.trans (hb4.mono HB.out.size)⟩

set_option maxHeartbeats 4000000 in
theorem getDel_any (p : PV) (va : Value) (w : World) (hp : p.In w) (hS : p.S.size ≤ 1048576) (hg : Gt w) : Calls Tryd.prog 33 #[p.agg, va] w (DoP p.at_ v0 (getR p.d) w) := by
  obtain ⟨k, S, ql, nl, cl, qh, nh, ch, qz, nz, cz, d⟩ := p
  have HP := Lib.hid hp
  have HK := Lib.hid (show k = (d.kind : Int) from VIn.ek hp)
  have HLt := Lib.hid (pv_lt hp)
  have HSd := Lib.hid (show S.data.toList = d.s from VIn.es hp)
  have hSz : S.size ≤ 1048576 := hS
  have HD := Lib.hid (DB.new w #[.int .u8 k, .string S, .slice ql nl cl, .slice qh nh ch, .slice qz nz cz] #[.int .u8 0, .string ⟨#[]⟩, .slice none 0 0, .slice none 0 0, .slice none 0 0])
  have HCs := Lib.hid (show (Tryd.prog.info? 26).map (·.size) = some (#[.int .u8 k, .string S, .slice ql nl cl, .slice qh nh ch, .slice qz nz cz] : Array Value).size from val_size)
  have HOn := Lib.hid (show (#[.int .u8 k, .string S, .slice ql nl cl, .slice qh nh ch, .slice qz nz cz] : Array Value).all (·.oneCell') = true by simp [Value.oneCell'])
  have C := Lib.hid (fun W (h : Below w.heap.size w W) => show Calls Tryd.prog 32 #[.agg #[.int .u8 k, .string S, .slice ql nl cl, .slice qh nh ch, .slice qz nz cz], va] W (DoP (PV.at_ ⟨k, S, ql, nl, cl, qh, nh, ch, qz, nz, cz, d⟩) d (getR d) W) from get_any ⟨k, S, ql, nl, cl, qh, nh, ch, qz, nz, cz, d⟩ va W (pv_keep hp h) hS (hg.keep h))
  have HCz := Lib.hid (show (Tryd.prog.info? 26).map (·.size) = some (#[.int .u8 0, .string ⟨#[]⟩, .slice none 0 0, .slice none 0 0, .slice none 0 0] : Array Value).size from val_size)
  have HOz := Lib.hid (show (#[.int .u8 0, .string ⟨#[]⟩, .slice none 0 0, .slice none 0 0, .slice none 0 0] : Array Value).all (·.oneCell') = true by simp [Value.oneCell'])
  show Calls Tryd.prog 33 #[.agg #[.int .u8 k, .string S, .slice ql nl cl, .slice qh nh ch, .slice qz nz cz], va] w _
  clear hp hS hg
  go_enter Tryd.func33, Tryd.ntmps33
  go_wp2_with fail
  generalize ((w.alloc _).alloc _) = W2 at HD ⊢
  obtain ⟨-, -, b0, b1, b2, b3, b4⟩ := HD.out.room
  with_reducible refine (C.out _ HD.out.bl).mono ?_
  rintro e w4 ⟨p2, vr, rfl, hI2, hd2, ha2, hA, hb4⟩
  obtain ⟨k2, S2, ql2, nl2, cl2, qh2, nh2, ch2, qz2, nz2, cz2, d2⟩ := p2
  dsimp only [PV.agg]
  have HD4 := Lib.hid (HD.out.keep hb4)
  have HA4 := Lib.hid hA
  have HI4 := Lib.hid hI2
  have HE4 := Lib.hid (show d2 = _ from hd2)
  have HT4 := Lib.hid ha2
  have HCs2 := Lib.hid (show (Tryd.prog.info? 26).map (·.size) = some (#[.int .u8 k2, .string S2, .slice ql2 nl2 cl2, .slice qh2 nh2 ch2, .slice qz2 nz2 cz2] : Array Value).size from val_size)
  have HOn2 := Lib.hid (show (#[.int .u8 k2, .string S2, .slice ql2 nl2 cl2, .slice qh2 nh2 ch2, .slice qz2 nz2 cz2] : Array Value).all (·.oneCell') = true by simp [Value.oneCell'])
  clear hA hb4 hI2 hd2 ha2
  have HD5 := Lib.hid (HD4.out.keep ((Below.refl _ _).alloc (Nat.le_refl _) (.cells #[.int .u8 k2, .string S2, .slice ql2 nl2 cl2, .slice qh2 nh2 ch2, .slice qz2 nz2 cz2] 26)))
  go_wp2_with (with_reducible refine wpList_store_row rfl 26 (.tmp 4) (.tmp 14) rfl (w.heap.size + 1) #[.int .u8 0, .string ⟨#[]⟩, .slice none 0 0, .slice none 0 0, .slice none 0 0] rfl rfl 26 _ HD5.out.re HCz.out rfl HOz.out ?_)
  exact bodyPost_ret (results_cell_slot rfl _ _ (w.heap.size + 1) 26 #[.int .u8 0, .string ⟨#[]⟩, .slice none 0 0, .slice none 0 0, .slice none 0 0] (0, 0) _ vr rfl (setRow_heap _ (w.heap.size + 1) _ _ _ _ HD5.out.re) Tryd.underlying26 rfl HCz.out rfl) rfl (do_row HD5.out pv0 _ _ _ _ vr (pv0_in _) rfl (fun j hj => absurd hj (pv0_at j)) (fun j hj => absurd hj (pv0_at j)) (HA4.out.keep ((Below.refl _ _).alloc (Nat.le_refl _) _)) (by have := HD.out.sz; omega) _)

set_option maxHeartbeats 4000000 in
theorem join_any (p : PV) (q : Option Addr) (L : List (List UInt8)) (n c : Nat) (w : World) (hp : p.In w) (hS : p.S.size ≤ 1048576) (hg : Gt w) (hn : L.length = n) (h3 : 3 ≤ n) (hs : StrT.Ss w q L) (hw : (wd L 2).length ≤ 140737488351232) : Calls Tryd.prog 34 #[p.agg, .slice q n c] w (DoP p.at_ (textV (p.d.s ++ wd L 2)) (int ((p.d.s.length + (wd L 2).length : Nat) : Int)) w) := by
  obtain ⟨k, S, ql, nl, cl, qh, nh, ch, qz, nz, cz, d⟩ := p
  have HP := Lib.hid hp
  have HK := Lib.hid (show k = (d.kind : Int) from VIn.ek hp)
  have HLt := Lib.hid (pv_lt hp)
  have HSd := Lib.hid (show S.data.toList = d.s from VIn.es hp)
  have hSz : S.size ≤ 1048576 := hS
  have HD := Lib.hid (DB.new w #[.int .u8 k, .string S, .slice ql nl cl, .slice qh nh ch, .slice qz nz cz] #[.int .u8 0, .string ⟨#[]⟩, .slice none 0 0, .slice none 0 0, .slice none 0 0])
  have HCs := Lib.hid (show (Tryd.prog.info? 26).map (·.size) = some (#[.int .u8 k, .string S, .slice ql nl cl, .slice qh nh ch, .slice qz nz cz] : Array Value).size from val_size)
  have HOn := Lib.hid (show (#[.int .u8 k, .string S, .slice ql nl cl, .slice qh nh ch, .slice qz nz cz] : Array Value).all (·.oneCell') = true by simp [Value.oneCell'])
  obtain ⟨T, hT⟩ : ∃ T : ByteArray, T = ⟨(wd L 2).toArray⟩ := ⟨_, rfl⟩
  have hTz : T.size ≤ 140737488351232 := by rw [hT, size_bytes]; exact hw
  have HTd := Lib.hid (show T.data.toList = wd L 2 by rw [hT])
  obtain ⟨b, off, rfl, hbl, hc⟩ := ss_word hs 2 (by omega)
  rw [← hT] at hc
  obtain ⟨X, hX⟩ : ∃ X, X = S ++ T := ⟨_, rfl⟩
  have ad := add_str S T (by omega)
  rw [← hX] at ad
  have HXd := Lib.hid (show X.data.toList = d.s ++ wd L 2 by rw [hX, ← HSd.out, ← HTd.out]; simp)
  have hXz : X.size ≤ 140737489399808 := by rw [hX, ByteArray.size_append]; omega
  have HXn := Lib.hid (show X.size = d.s.length + (wd L 2).length by rw [hX, ByteArray.size_append, ← HSd.out, ← HTd.out, str_len, str_len])
  have hc2 := fun W (h : Below w.heap.size w W) => (h.cell (p := ⟨b, off + 2, none⟩) hbl).trans hc
  have hc3 := hc2 _ HD.out.bl
  have h3i : (2 : Int) < (n : Int) := by omega
  have C1 := Lib.hid (fun W => text_any X W)
  have C2 := Lib.hid (fun W (h : Below w.heap.size w W) => int_any (X.size : Int) W (by omega) (by omega) (hg.keep h))
  have HCt := Lib.hid (show (Tryd.prog.info? 26).map (·.size) = some (#[.int .u8 1, .string X, .slice none 0 0, .slice none 0 0, .slice none 0 0] : Array Value).size from val_size)
  have HOt := Lib.hid (show (#[.int .u8 1, .string X, .slice none 0 0, .slice none 0 0, .slice none 0 0] : Array Value).all (·.oneCell') = true by simp [Value.oneCell'])
  show Calls Tryd.prog 34 #[.agg #[.int .u8 k, .string S, .slice ql nl cl, .slice qh nh ch, .slice qz nz cz], .slice (some ⟨b, off, none⟩) n c] w _
  clear hp hS hg hT hX hs hw hn hc h3 hc2
  go_enter Tryd.func34, Tryd.ntmps34
  go_wp2_with fail
  generalize ((w.alloc _).alloc _) = W2 at HD hc3 ⊢
  obtain ⟨-, -, b0, b1, b2, b3, b4⟩ := HD.out.room
  go_quiet (fail)
  have HDq := Lib.hid (show DB w (W2.drewN nq) _ _ from HD.out.keep (below_drewN (Below.refl _ _) nq))
  generalize W2.drewN nq = W3 at HDq ⊢
  go_wp2_with fail
  with_reducible refine (C1.out _).mono ?_
  rintro e w4 ⟨rfl, hb4⟩
  dsimp only [PV.agg, pvT]
  have HD4 := Lib.hid (HDq.out.keep hb4)
  go_wp2_with fail
  with_reducible refine (C2.out _ HD4.out.bl).mono ?_
  rintro e w5 ⟨vr, rfl, hA, hb5⟩
  have HD5 := Lib.hid (HD4.out.keep hb5)
  have HA5 := Lib.hid hA
  clear hA hb4 hb5
  go_wp2_with (with_reducible refine wpList_store_row rfl 26 (.tmp 4) (.tmp 14) rfl (w.heap.size + 1) #[.int .u8 1, .string X, .slice none 0 0, .slice none 0 0, .slice none 0 0] rfl rfl 26 _ HD5.out.re HCt.out rfl HOt.out ?_)
  exact bodyPost_ret (results_cell_slot rfl _ _ (w.heap.size + 1) 26 #[.int .u8 1, .string X, .slice none 0 0, .slice none 0 0, .slice none 0 0] (0, 0) _ vr rfl (setRow_heap _ (w.heap.size + 1) _ _ _ _ HD5.out.re) Tryd.underlying26 rfl HCt.out rfl) rfl (do_row HD5.out (pvT X) _ _ _ _ vr (pvT_in X _) (vt_eq _ _ HXd.out) (fun j hj => absurd hj (pvT_at X j)) (fun j hj => absurd hj (pvT_at X j)) (by rw [← HXn.out]; exact HA5.out) (by have := HD4.out.sz; omega) _)

set_option maxHeartbeats 4000000 in
theorem add_any (p : PV) (x : Int) (w : World) (hp : p.In w) (hS : p.S.size ≤ 1048576) (hg : Gd w) (hx0 : -9223372036854775808 ≤ x) (hx1 : x ≤ 9223372036854775807) : Calls Tryd.prog 46 #[p.agg, .int .i64 x] w (DoP p.at_ (addD p.d x).1 (addD p.d x).2 w) := by
  obtain ⟨k, S, ql, nl, cl, qh, nh, ch, qz, nz, cz, d⟩ := p
  have HP := Lib.hid hp
  have HK := Lib.hid (show k = (d.kind : Int) from VIn.ek hp)
  have HLt := Lib.hid (pv_lt hp)
  have HSd := Lib.hid (show S.data.toList = d.s from VIn.es hp)
  have hSz : S.size ≤ 1048576 := hS
  have HD := Lib.hid (DB.new w #[.int .u8 k, .string S, .slice ql nl cl, .slice qh nh ch, .slice qz nz cz] #[.int .u8 0, .string ⟨#[]⟩, .slice none 0 0, .slice none 0 0, .slice none 0 0])
  have HCs := Lib.hid (show (Tryd.prog.info? 26).map (·.size) = some (#[.int .u8 k, .string S, .slice ql nl cl, .slice qh nh ch, .slice qz nz cz] : Array Value).size from val_size)
  have HOn := Lib.hid (show (#[.int .u8 k, .string S, .slice ql nl cl, .slice qh nh ch, .slice qz nz cz] : Array Value).all (·.oneCell') = true by simp [Value.oneCell'])
  have CN := Lib.hid (fun W (h : Below w.heap.size w W) => show Calls Tryd.prog 50 #[.agg #[.int .u8 k, .string S, .slice ql nl cl, .slice qh nh ch, .slice qz nz cz]] W (fun e w' => e = .returned (.tuple #[.int .i64 (numV d), .bool (numB d)]) ∧ Below W.heap.size W w') from number_any ⟨k, S, ql, nl, cl, qh, nh, ch, qz, nz, cz, d⟩ W (pv_keep hp h) hS (hg.keep h))
  have CE := Lib.hid (fun W (h : Below w.heap.size w W) (s : ByteArray) (hs : s.data.toList = mInt) => (show Calls Tryd.prog 27 #[.string s] W (Gives (err mInt) W) from err_to s mInt hs (by decide) W (hg.gt.keep h)))
  have CO := Lib.hid (fun W (h : Below w.heap.size w W) (s : ByteArray) (hs : s.data.toList = mOver) => (show Calls Tryd.prog 27 #[.string s] W (Gives (err mOver) W) from err_to s mOver hs (by decide) W (hg.gt.keep h)))
  obtain ⟨v, hv⟩ : ∃ v, v = numV d := ⟨_, rfl⟩
  obtain ⟨hv0, hv1⟩ := numV_in d
  obtain ⟨z, hz⟩ : ∃ z, z = addV v x := ⟨_, rfl⟩
  have CA := Lib.hid (fun W => NumW.add_any v x W (by rw [hv]; exact hv0) (by rw [hv]; exact hv1) hx0 hx1)
  have hzb : -9223372036854775808 ≤ z ∧ z ≤ 9223372036854775807 := by rw [hz]; unfold addV; split <;> omega
  have CT := Lib.hid (fun W (h : Below w.heap.size w W) => text_t z hzb.1 hzb.2 W (hg.gt.keep h))
  have CI := Lib.hid (fun W (h : Below w.heap.size w W) => int_any z W hzb.1 hzb.2 (hg.gt.keep h))
  obtain ⟨F, hF⟩ : ∃ F : ByteArray, F = ⟨(Lib.itoa z).toArray⟩ := ⟨_, rfl⟩
  have CV := Lib.hid (fun W => text_any F W)
  have HFd := Lib.hid (show F.data.toList = Lib.itoa z by rw [hF])
  have HCt := Lib.hid (show (Tryd.prog.info? 26).map (·.size) = some (#[.int .u8 1, .string F, .slice none 0 0, .slice none 0 0, .slice none 0 0] : Array Value).size from val_size)
  have HOt := Lib.hid (show (#[.int .u8 1, .string F, .slice none 0 0, .slice none 0 0, .slice none 0 0] : Array Value).all (·.oneCell') = true by simp [Value.oneCell'])
  rw [← hF] at CT
  show Calls Tryd.prog 46 #[.agg #[.int .u8 k, .string S, .slice ql nl cl, .slice qh nh ch, .slice qz nz cz], .int .i64 x] w _
  by_cases hB : numB d = true
  · by_cases hA : addB v x = true
    · have HR := Lib.hid (show addD d x = (textV (Lib.itoa z), int z) by
        unfold addD sumD
        rw [if_pos hB, ← hv, if_pos hA, hz])
      have HN := Lib.hid (show numV d = v ∧ numB d = true from ⟨hv.symm, hB⟩)
      have HAd := Lib.hid (show addV v x = z ∧ addB v x = true from ⟨hz.symm, hA⟩)
      clear hp hS hg hv hz hF hB hA hv0 hv1 hzb CE CO hx0 hx1
      go_enter Tryd.func46, Tryd.ntmps46
      go_wp2_with fail
      generalize ((w.alloc _).alloc _) = W2 at HD ⊢
      obtain ⟨-, -, b0, b1, b2, b3, b4⟩ := HD.out.room
      with_reducible refine (CN.out _ HD.out.bl).mono ?_
      rintro e w4 ⟨rfl, hb4⟩
      dsimp only
      rw [HN.out.1, HN.out.2]
      have HD4 := Lib.hid (HD.out.keep hb4)
      clear hb4
      go_wp2_with (go_at_call 51; (with_reducible refine (CA.out _).mono ?_); rintro e w5 ⟨rfl, rfl⟩; rw [HAd.out.1, HAd.out.2])
      with_reducible refine (CT.out _ HD4.out.bl).mono ?_
      rintro e w6 ⟨rfl, hb6⟩
      have HD6 := Lib.hid (HD4.out.keep hb6)
      clear hb6
      go_wp2_with fail
      with_reducible refine (CV.out _).mono ?_
      rintro e w7 ⟨rfl, hb7⟩
      dsimp only [PV.agg, pvT]
      have HD7 := Lib.hid (HD6.out.keep hb7)
      clear hb7
      go_wp2_with fail
      with_reducible refine (CI.out _ HD7.out.bl).mono ?_
      rintro e w8 ⟨vr, rfl, hA, hb8⟩
      have HD8 := Lib.hid (HD7.out.keep hb8)
      have HA8 := Lib.hid hA
      clear hA hb8
      go_wp2_with (with_reducible refine wpList_store_row rfl 26 (.tmp 4) (.tmp 31) rfl (w.heap.size + 1) #[.int .u8 1, .string F, .slice none 0 0, .slice none 0 0, .slice none 0 0] rfl rfl 26 _ HD8.out.re HCt.out rfl HOt.out ?_)
      exact bodyPost_ret (results_cell_slot rfl _ _ (w.heap.size + 1) 26 #[.int .u8 1, .string F, .slice none 0 0, .slice none 0 0, .slice none 0 0] (0, 0) _ vr rfl (setRow_heap _ (w.heap.size + 1) _ _ _ _ HD8.out.re) Tryd.underlying26 rfl HCt.out rfl) rfl (do_row HD8.out (pvT F) _ _ _ _ vr (pvT_in F _) (by rw [HR.out]; exact vt_eq _ _ HFd.out) (fun j hj => absurd hj (pvT_at F j)) (fun j hj => absurd hj (pvT_at F j)) (by rw [HR.out]; exact HA8.out) (by have := HD7.out.sz; omega) _)
    · have HR0 := Lib.hid (show addD d x = (d, eOver) by
        unfold addD sumD
        rw [if_pos hB, ← hv, if_neg hA])
      have HN := Lib.hid (show numV d = v ∧ numB d = true from ⟨hv.symm, hB⟩)
      have HAd := Lib.hid (show addV v x = z ∧ addB v x = false from ⟨hz.symm, by simpa using hA⟩)
      have HR := Lib.hid (show (addD d x).2 = eOver by rw [HR0.out])
      rw [show (addD (PV.d ⟨k, S, ql, nl, cl, qh, nh, ch, qz, nz, cz, d⟩) x).1 = d by show (addD d x).1 = d; rw [HR0.out]]
      clear hp hS hg hv hz hF hB hA hv0 hv1 hzb CE CT CI CV hx0 hx1 HR0
      go_enter Tryd.func46, Tryd.ntmps46
      go_wp2_with fail
      generalize ((w.alloc _).alloc _) = W2 at HD ⊢
      obtain ⟨-, -, b0, b1, b2, b3, b4⟩ := HD.out.room
      with_reducible refine (CN.out _ HD.out.bl).mono ?_
      rintro e w3 ⟨rfl, hb3⟩
      dsimp only
      rw [HN.out.1, HN.out.2]
      have HD3 := Lib.hid (HD.out.keep hb3)
      clear hb3 b0 b1 b2 b3 b4 HD
      have HD := HD3
      clear HD3
      obtain ⟨-, -, b0, b1, b2, b3, b4⟩ := HD.out.room
      go_wp2_with (go_at_call 51; (with_reducible refine (CA.out _).mono ?_); rintro e w5 ⟨rfl, rfl⟩; rw [HAd.out.1, HAd.out.2])
      go_region_law (first
        | (go_simp; (with_reducible refine (CO.out _ (by first | exact HD.out.bl | exact HD.out.bl.drew) _ ?_).mono ?_); (exact rfl); rintro e w4 ⟨vr, rfl, hA, hb4⟩; dsimp only
           have hb4' : Below w3.heap.size w3 w4 := by first | exact hb4 | exact (Below.refl w3.heap.size w3).drew.trans hb4
           have HD4 := Lib.hid (HD.out.keep hb4')
           have HA4 := Lib.hid (show Ans w3.heap.size w4 vr _ from hA)
           obtain ⟨-, -, c0, c1, c2, c3, c4⟩ := HD4.out.room
           obtain ⟨-, -, r0, r1, r2, r3, r4⟩ := HD4.out.roomR
           have f0 := HD4.out.roomR.frz 0
           have f1 := HD4.out.roomR.frz 1
           have f2 := HD4.out.roomR.frz 2
           have f3 := HD4.out.roomR.frz 3
           have f4 := HD4.out.roomR.frz 4
           clear hA hb4 hb4'))
      all_goals
        have HHe := Lib.hid (val_five HD4.out.re (.int .u8 k) (.string S) (.slice ql nl cl) (.slice qh nh ch) (.slice qz nz cz))
        have HE := Lib.hid (do_five HD4.out ⟨k, S, ql, nl, cl, qh, nh, ch, qz, nz, cz, d⟩ (PV.at_ ⟨k, S, ql, nl, cl, qh, nh, ch, qz, nz, cz, d⟩) _ d _ vr (pv_keep HP.out HD4.out.bl) rfl (fun j hj => Or.inl hj) (fun j hj => by have := HLt.out j hj; omega) HA4.out (by have := HD.out.sz; omega))
        go_wp2_with fail
        exact bodyPost_ret (results_cell_slot rfl _ _ (w.heap.size + 1) 26 #[.int .u8 k, .string S, .slice ql nl cl, .slice qh nh ch, .slice qz nz cz] (0, 0) _ vr rfl HHe.out Tryd.underlying26 rfl HCs.out rfl) rfl (by rw [HR.out]; exact HE.out)
  · have HR0 := Lib.hid (show addD d x = (d, eInt) from if_neg hB)
    have HN := Lib.hid (show numV d = v ∧ numB d = false from ⟨hv.symm, by simpa using hB⟩)
    have HR := Lib.hid (show (addD d x).2 = eInt by rw [HR0.out])
    rw [show (addD (PV.d ⟨k, S, ql, nl, cl, qh, nh, ch, qz, nz, cz, d⟩) x).1 = d by show (addD d x).1 = d; rw [HR0.out]]
    clear hp hS hg hv hz hF hB hv0 hv1 hzb CO CT CI CV CA hx0 hx1 HR0
    go_enter Tryd.func46, Tryd.ntmps46
    go_wp2_with fail
    generalize ((w.alloc _).alloc _) = W2 at HD ⊢
    obtain ⟨-, -, b0, b1, b2, b3, b4⟩ := HD.out.room
    with_reducible refine (CN.out _ HD.out.bl).mono ?_
    rintro e w3 ⟨rfl, hb3⟩
    dsimp only
    rw [HN.out.1, HN.out.2]
    have HD3 := Lib.hid (HD.out.keep hb3)
    clear hb3 b0 b1 b2 b3 b4 HD
    have HD := HD3
    clear HD3
    obtain ⟨-, -, b0, b1, b2, b3, b4⟩ := HD.out.room
    go_wp2_with fail
    go_region_law (first
      | (go_simp; (with_reducible refine (CE.out _ (by first | exact HD.out.bl | exact HD.out.bl.drew) _ ?_).mono ?_); (exact rfl); rintro e w4 ⟨vr, rfl, hA, hb4⟩; dsimp only
         have hb4' : Below w3.heap.size w3 w4 := by first | exact hb4 | exact (Below.refl w3.heap.size w3).drew.trans hb4
         have HD4 := Lib.hid (HD.out.keep hb4')
         have HA4 := Lib.hid (show Ans w3.heap.size w4 vr _ from hA)
         obtain ⟨-, -, c0, c1, c2, c3, c4⟩ := HD4.out.room
         obtain ⟨-, -, r0, r1, r2, r3, r4⟩ := HD4.out.roomR
         have f0 := HD4.out.roomR.frz 0
         have f1 := HD4.out.roomR.frz 1
         have f2 := HD4.out.roomR.frz 2
         have f3 := HD4.out.roomR.frz 3
         have f4 := HD4.out.roomR.frz 4
         clear hA hb4 hb4'))
    all_goals
      have HHe := Lib.hid (val_five HD4.out.re (.int .u8 k) (.string S) (.slice ql nl cl) (.slice qh nh ch) (.slice qz nz cz))
      have HE := Lib.hid (do_five HD4.out ⟨k, S, ql, nl, cl, qh, nh, ch, qz, nz, cz, d⟩ (PV.at_ ⟨k, S, ql, nl, cl, qh, nh, ch, qz, nz, cz, d⟩) _ d _ vr (pv_keep HP.out HD4.out.bl) rfl (fun j hj => Or.inl hj) (fun j hj => by have := HLt.out j hj; omega) HA4.out (by have := HD.out.sz; omega))
      go_wp2_with fail
      exact bodyPost_ret (results_cell_slot rfl _ _ (w.heap.size + 1) 26 #[.int .u8 k, .string S, .slice ql nl cl, .slice qh nh ch, .slice qz nz cz] (0, 0) _ vr rfl HHe.out Tryd.underlying26 rfl HCs.out rfl) rfl (by rw [HR.out]; exact HE.out)

set_option maxHeartbeats 4000000 in
theorem incr_any (p : PV) (va : Value) (w : World) (hp : p.In w) (hS : p.S.size ≤ 1048576) (hg : Gd w) : Calls Tryd.prog 37 #[p.agg, va] w (DoP p.at_ (addD p.d 1).1 (addD p.d 1).2 w) := by
  obtain ⟨k, S, ql, nl, cl, qh, nh, ch, qz, nz, cz, d⟩ := p
  have HP := Lib.hid hp
  have HK := Lib.hid (show k = (d.kind : Int) from VIn.ek hp)
  have HLt := Lib.hid (pv_lt hp)
  have HSd := Lib.hid (show S.data.toList = d.s from VIn.es hp)
  have hSz : S.size ≤ 1048576 := hS
  have HD := Lib.hid (DB.new w #[.int .u8 k, .string S, .slice ql nl cl, .slice qh nh ch, .slice qz nz cz] #[.int .u8 0, .string ⟨#[]⟩, .slice none 0 0, .slice none 0 0, .slice none 0 0])
  have HCs := Lib.hid (show (Tryd.prog.info? 26).map (·.size) = some (#[.int .u8 k, .string S, .slice ql nl cl, .slice qh nh ch, .slice qz nz cz] : Array Value).size from val_size)
  have HOn := Lib.hid (show (#[.int .u8 k, .string S, .slice ql nl cl, .slice qh nh ch, .slice qz nz cz] : Array Value).all (·.oneCell') = true by simp [Value.oneCell'])
  have C := Lib.hid (fun W (h : Below w.heap.size w W) => show Calls Tryd.prog 46 #[.agg #[.int .u8 k, .string S, .slice ql nl cl, .slice qh nh ch, .slice qz nz cz], .int .i64 1] W (DoP (PV.at_ ⟨k, S, ql, nl, cl, qh, nh, ch, qz, nz, cz, d⟩) (addD d 1).1 (addD d 1).2 W) from add_any ⟨k, S, ql, nl, cl, qh, nh, ch, qz, nz, cz, d⟩ 1 W (pv_keep hp h) hS (hg.keep h) (by decide) (by decide))
  show Calls Tryd.prog 37 #[.agg #[.int .u8 k, .string S, .slice ql nl cl, .slice qh nh ch, .slice qz nz cz], va] w _
  clear hp hS hg
  go_enter Tryd.func37, Tryd.ntmps37
  go_wp2_with fail
  generalize ((w.alloc _).alloc _) = W2 at HD ⊢
  obtain ⟨-, -, b0, b1, b2, b3, b4⟩ := HD.out.room
  with_reducible refine (C.out _ HD.out.bl).mono ?_
  rintro e w4 ⟨p2, vr, rfl, hI2, hd2, ha2, hA, hb4⟩
  obtain ⟨k2, S2, ql2, nl2, cl2, qh2, nh2, ch2, qz2, nz2, cz2, d2⟩ := p2
  dsimp only [PV.agg]
  have HD4 := Lib.hid (HD.out.keep hb4)
  have HA4 := Lib.hid hA
  have HI4 := Lib.hid hI2
  have HE4 := Lib.hid (show d2 = _ from hd2)
  have HT4 := Lib.hid ha2
  have HCs2 := Lib.hid (show (Tryd.prog.info? 26).map (·.size) = some (#[.int .u8 k2, .string S2, .slice ql2 nl2 cl2, .slice qh2 nh2 ch2, .slice qz2 nz2 cz2] : Array Value).size from val_size)
  have HOn2 := Lib.hid (show (#[.int .u8 k2, .string S2, .slice ql2 nl2 cl2, .slice qh2 nh2 ch2, .slice qz2 nz2 cz2] : Array Value).all (·.oneCell') = true by simp [Value.oneCell'])
  clear hA hb4 hI2 hd2 ha2
  go_wp2_with (with_reducible refine wpList_store_row rfl 26 (.tmp 4) (.tmp 8) rfl (w.heap.size + 1) #[.int .u8 k2, .string S2, .slice ql2 nl2 cl2, .slice qh2 nh2 ch2, .slice qz2 nz2 cz2] rfl rfl 26 _ HD4.out.re HCs2.out rfl HOn2.out ?_)
  exact bodyPost_ret (results_cell_slot rfl _ _ (w.heap.size + 1) 26 #[.int .u8 k2, .string S2, .slice ql2 nl2 cl2, .slice qh2 nh2 ch2, .slice qz2 nz2 cz2] (0, 0) _ vr rfl (setRow_heap w4 (w.heap.size + 1) _ _ _ _ HD4.out.re) Tryd.underlying26 rfl HCs2.out rfl) rfl (do_row HD4.out ⟨k2, S2, ql2, nl2, cl2, qh2, nh2, ch2, qz2, nz2, cz2, d2⟩ _ _ _ _ vr HI4.out (HE4.out) (fun j hj => by rcases HT4.out j hj with h | h; exact Or.inl h; exact Or.inr (by have := HD.out.sz; omega)) (fun j hj => by rcases HT4.out j hj with h | h; (have := HLt.out j h; omega); (have := HD.out.sz; omega)) (HA4.out) (by have := HD.out.sz; omega) _)

set_option maxHeartbeats 4000000 in
theorem incrBy_any (p : PV) (q : Option Addr) (L : List (List UInt8)) (n c : Nat) (w : World) (hp : p.In w) (hS : p.S.size ≤ 1048576) (hg : Gd w) (hn : L.length = n) (h3 : 3 ≤ n) (hs : StrT.Ss w q L) (hw : (wd L 2).length ≤ 140737488351232) : Calls Tryd.prog 36 #[p.agg, .slice q n c] w (DoP p.at_ (byD p.d (wd L 2)).1 (byD p.d (wd L 2)).2 w) := by
  obtain ⟨k, S, ql, nl, cl, qh, nh, ch, qz, nz, cz, d⟩ := p
  have HP := Lib.hid hp
  have HK := Lib.hid (show k = (d.kind : Int) from VIn.ek hp)
  have HLt := Lib.hid (pv_lt hp)
  have HSd := Lib.hid (show S.data.toList = d.s from VIn.es hp)
  have hSz : S.size ≤ 1048576 := hS
  have HD := Lib.hid (DB.new w #[.int .u8 k, .string S, .slice ql nl cl, .slice qh nh ch, .slice qz nz cz] #[.int .u8 0, .string ⟨#[]⟩, .slice none 0 0, .slice none 0 0, .slice none 0 0])
  have HCs := Lib.hid (show (Tryd.prog.info? 26).map (·.size) = some (#[.int .u8 k, .string S, .slice ql nl cl, .slice qh nh ch, .slice qz nz cz] : Array Value).size from val_size)
  have HOn := Lib.hid (show (#[.int .u8 k, .string S, .slice ql nl cl, .slice qh nh ch, .slice qz nz cz] : Array Value).all (·.oneCell') = true by simp [Value.oneCell'])
  obtain ⟨T, hT⟩ : ∃ T : ByteArray, T = ⟨(wd L 2).toArray⟩ := ⟨_, rfl⟩
  have hTz : T.size ≤ 281474976710656 := by rw [hT, size_bytes]; exact Nat.le_trans hw (by decide)
  have HTd := Lib.hid (show T.data.toList = wd L 2 by rw [hT])
  obtain ⟨b, off, rfl, hbl, hc⟩ := ss_word hs 2 (by omega)
  rw [← hT] at hc
  have hc3 := (HD.out.bl.cell (p := ⟨b, off + 2, none⟩) hbl).trans hc
  have h3i : (2 : Int) < (n : Int) := by omega
  have CP := Lib.hid (fun W (h : Below w.heap.size w W) => parse_any T hTz W (hg.keep h))
  rw [HTd.out] at CP
  have CE := Lib.hid (fun W (h : Below w.heap.size w W) (s : ByteArray) (hs : s.data.toList = mInt) => (show Calls Tryd.prog 27 #[.string s] W (Gives (err mInt) W) from err_to s mInt hs (by decide) W (hg.gt.keep h)))
  obtain ⟨x, hx⟩ : ∃ x, x = pV (wd L 2) := ⟨_, rfl⟩
  obtain ⟨hx0, hx1⟩ := pV_bounds (wd L 2)
  rw [← hx] at hx0 hx1
  have C := Lib.hid (fun W (h : Below w.heap.size w W) => show Calls Tryd.prog 46 #[.agg #[.int .u8 k, .string S, .slice ql nl cl, .slice qh nh ch, .slice qz nz cz], .int .i64 x] W (DoP (PV.at_ ⟨k, S, ql, nl, cl, qh, nh, ch, qz, nz, cz, d⟩) (addD d x).1 (addD d x).2 W) from add_any ⟨k, S, ql, nl, cl, qh, nh, ch, qz, nz, cz, d⟩ x W (pv_keep hp h) hS (hg.keep h) hx0 hx1)
  show Calls Tryd.prog 36 #[.agg #[.int .u8 k, .string S, .slice ql nl cl, .slice qh nh ch, .slice qz nz cz], .slice (some ⟨b, off, none⟩) n c] w _
  by_cases hB : pB (wd L 2) = true
  · have HR := Lib.hid (show byD d (wd L 2) = addD d x by unfold byD; rw [if_pos hB, hx])
    have HN := Lib.hid (show pV (wd L 2) = x ∧ pB (wd L 2) = true from ⟨hx.symm, hB⟩)
    clear hp hS hg hT hs hw hn hc h3 hx hB hx0 hx1 CE
    go_enter Tryd.func36, Tryd.ntmps36
    go_wp2_with fail
    generalize ((w.alloc _).alloc _) = W2 at HD hc3 ⊢
    with_reducible refine (CP.out _ HD.out.bl).mono ?_
    rintro e w3 ⟨rfl, hb3⟩
    dsimp only
    rw [HN.out.1, HN.out.2]
    have HD3 := Lib.hid (HD.out.keep hb3)
    clear hb3 HD hc3
    have HD := HD3
    clear HD3
    obtain ⟨-, -, b0, b1, b2, b3, b4⟩ := HD.out.room
    go_wp2_with fail
    with_reducible refine (C.out _ HD.out.bl).mono ?_
    rintro e w4 ⟨p2, vr, rfl, hI2, hd2, ha2, hA, hb4⟩
    obtain ⟨k2, S2, ql2, nl2, cl2, qh2, nh2, ch2, qz2, nz2, cz2, d2⟩ := p2
    dsimp only [PV.agg]
    have HD4 := Lib.hid (HD.out.keep hb4)
    have HA4 := Lib.hid hA
    have HI4 := Lib.hid hI2
    have HE4 := Lib.hid (show d2 = _ from hd2)
    have HT4 := Lib.hid ha2
    have HCs2 := Lib.hid (show (Tryd.prog.info? 26).map (·.size) = some (#[.int .u8 k2, .string S2, .slice ql2 nl2 cl2, .slice qh2 nh2 ch2, .slice qz2 nz2 cz2] : Array Value).size from val_size)
    have HOn2 := Lib.hid (show (#[.int .u8 k2, .string S2, .slice ql2 nl2 cl2, .slice qh2 nh2 ch2, .slice qz2 nz2 cz2] : Array Value).all (·.oneCell') = true by simp [Value.oneCell'])
    clear hA hb4 hI2 hd2 ha2
    go_wp2_with (with_reducible refine wpList_store_row rfl 26 (.tmp 4) (.tmp 22) rfl (w.heap.size + 1) #[.int .u8 k2, .string S2, .slice ql2 nl2 cl2, .slice qh2 nh2 ch2, .slice qz2 nz2 cz2] rfl rfl 26 _ HD4.out.re HCs2.out rfl HOn2.out ?_)
    exact bodyPost_ret (results_cell_slot rfl _ _ (w.heap.size + 1) 26 #[.int .u8 k2, .string S2, .slice ql2 nl2 cl2, .slice qh2 nh2 ch2, .slice qz2 nz2 cz2] (0, 0) _ vr rfl (setRow_heap w4 (w.heap.size + 1) _ _ _ _ HD4.out.re) Tryd.underlying26 rfl HCs2.out rfl) rfl (do_row HD4.out ⟨k2, S2, ql2, nl2, cl2, qh2, nh2, ch2, qz2, nz2, cz2, d2⟩ _ _ _ _ vr HI4.out (by rw [HR.out]; exact HE4.out) (fun j hj => by rcases HT4.out j hj with h | h; exact Or.inl h; exact Or.inr (by have := HD.out.sz; omega)) (fun j hj => by rcases HT4.out j hj with h | h; (have := HLt.out j h; omega); (have := HD.out.sz; omega)) (by rw [HR.out]; exact HA4.out) (by have := HD.out.sz; omega) _)
  · have HR0 := Lib.hid (show byD d (wd L 2) = (d, eInt) from if_neg hB)
    have HN := Lib.hid (show pV (wd L 2) = x ∧ pB (wd L 2) = false from ⟨hx.symm, by simpa using hB⟩)
    have HR := Lib.hid (show (byD d (wd L 2)).2 = eInt by rw [HR0.out])
    rw [show (byD (PV.d ⟨k, S, ql, nl, cl, qh, nh, ch, qz, nz, cz, d⟩) (wd L 2)).1 = d by show (byD d (wd L 2)).1 = d; rw [HR0.out]]
    clear hp hS hg hT hs hw hn hc h3 hx hB hx0 hx1 C HR0
    go_enter Tryd.func36, Tryd.ntmps36
    go_wp2_with fail
    generalize ((w.alloc _).alloc _) = W2 at HD hc3 ⊢
    with_reducible refine (CP.out _ HD.out.bl).mono ?_
    rintro e w3 ⟨rfl, hb3⟩
    dsimp only
    rw [HN.out.1, HN.out.2]
    have HD3 := Lib.hid (HD.out.keep hb3)
    clear hb3 HD hc3
    have HD := HD3
    clear HD3
    obtain ⟨-, -, b0, b1, b2, b3, b4⟩ := HD.out.room
    go_wp2_with fail
    go_region_law (first
      | (go_simp; (with_reducible refine (CE.out _ (by first | exact HD.out.bl | exact HD.out.bl.drew) _ ?_).mono ?_); (exact rfl); rintro e w4 ⟨vr, rfl, hA, hb4⟩; dsimp only
         have hb4' : Below w3.heap.size w3 w4 := by first | exact hb4 | exact (Below.refl w3.heap.size w3).drew.trans hb4
         have HD4 := Lib.hid (HD.out.keep hb4')
         have HA4 := Lib.hid (show Ans w3.heap.size w4 vr _ from hA)
         obtain ⟨-, -, c0, c1, c2, c3, c4⟩ := HD4.out.room
         obtain ⟨-, -, r0, r1, r2, r3, r4⟩ := HD4.out.roomR
         have f0 := HD4.out.roomR.frz 0
         have f1 := HD4.out.roomR.frz 1
         have f2 := HD4.out.roomR.frz 2
         have f3 := HD4.out.roomR.frz 3
         have f4 := HD4.out.roomR.frz 4
         clear hA hb4 hb4'))
    all_goals
      have HHe := Lib.hid (val_five HD4.out.re (.int .u8 k) (.string S) (.slice ql nl cl) (.slice qh nh ch) (.slice qz nz cz))
      have HE := Lib.hid (do_five HD4.out ⟨k, S, ql, nl, cl, qh, nh, ch, qz, nz, cz, d⟩ (PV.at_ ⟨k, S, ql, nl, cl, qh, nh, ch, qz, nz, cz, d⟩) _ d _ vr (pv_keep HP.out HD4.out.bl) rfl (fun j hj => Or.inl hj) (fun j hj => by have := HLt.out j hj; omega) HA4.out (by have := HD.out.sz; omega))
      go_wp2_with fail
      exact bodyPost_ret (results_cell_slot rfl _ _ (w.heap.size + 1) 26 #[.int .u8 k, .string S, .slice ql nl cl, .slice qh nh ch, .slice qz nz cz] (0, 0) _ vr rfl HHe.out Tryd.underlying26 rfl HCs.out rfl) rfl (by rw [HR.out]; exact HE.out)


end Go.Proofs.YthiaflnlmabikaaDoor.TxtM
