/-
  FrameBack: words that were put are read one by one; a part of them is not whole.
-/
import Derived.Test.YtadffjmpkeaikaaDoorFrameBack0
import Derived.Test.YtadffjmpkeaikaaDoorFrameRead
import Derived.Deep.RegionLaw
namespace Go.Proofs.YtadffjmpkeaikaaDoor.frameBack
open Go.RowKit Kit BytesIn ReplyMath ReplyT NumMath NumL FrameMath FrameT FrameM FrameL
set_option linter.unusedVariables false
set_option maxRecDepth 100000
-- ASKS: NumL.Gd

set_option maxHeartbeats 4000000 in
theorem walk0 (p : Option Addr) (x : List (List UInt8)) (n c : Nat) (q : Option Addr) (y : List (List UInt8)) (m d : Nat) (k : Nat) (w : World) (hn : x.length = n) (hb : Ss w p x) (hn9 : n ≤ 9223372036854775807) (hzx : ∀ s ∈ x, s.length ≤ 140737488351232)
    (hm : y.length = m) (hby : Ss w q y) (hm9 : m ≤ 9223372036854775807) (hzy : ∀ s ∈ y, s.length ≤ 140737488351232) (hk : k ≤ 65535) (hg : Gd w) :
    Calls Tryd.prog 5 #[.slice p n c, .slice q m d, .int .u16 (k : Int)] w fun e w' => e = .returned (.bool true) ∧ Below w.heap.size w w' := by
  have HG := Lib.hid hg
  have C0 := Lib.hid (shown_any w hg)
  have C1 := Lib.hid (fun W (hbw : Below w.heap.size w W) => fit_any p x n c W hn (hb.keep hbw) hzx hn9)
  have C2 := Lib.hid (fun W (hbw : Below w.heap.size w W) => fit_any q y m d W hm (hby.keep hbw) hzy hm9)
  have HXl := fitL_len x
  have HXs := fitL_small x
  have HYl := fitL_len y
  have HYs := fitL_small y
  obtain ⟨X, hX⟩ : ∃ X, X = fitL x := ⟨_, rfl⟩
  obtain ⟨Y, hY⟩ : ∃ Y, Y = fitL y := ⟨_, rfl⟩
  rw [← hX] at C1 HXl HXs
  rw [← hY] at C2 HYl HYs
  have HRT := Lib.hid (readsB_two X Y HXl HYl HXs HYs)
  have HTX := texts_len X HXl.2 HXs
  have HTY := texts_len Y HYl.2 HYs
  have HPt := Lib.hid (fun j (hj : j < (texts X).length) => part_of X j HXl HXs hj)
  obtain ⟨P, hP⟩ : ∃ P, P = texts X := ⟨_, rfl⟩
  obtain ⟨Q, hQ⟩ : ∃ Q, Q = texts Y := ⟨_, rfl⟩
  obtain ⟨nx, hnx⟩ : ∃ nx, nx = X.length := ⟨_, rfl⟩
  obtain ⟨ny, hny⟩ : ∃ ny, ny = Y.length := ⟨_, rfl⟩
  obtain ⟨np, hnp⟩ : ∃ np, np = P.length := ⟨_, rfl⟩
  obtain ⟨nq, hnq⟩ : ∃ nq, nq = Q.length := ⟨_, rfl⟩
  rw [← hnx] at HXl
  rw [← hny] at HYl
  rw [← hP, ← hQ] at HRT
  rw [← hP] at HTX HPt
  rw [← hQ] at HTY
  rw [← hnp] at HTX HPt
  rw [← hnq] at HTY
  have HXS := Lib.hid HXs
  have HYS := Lib.hid HYs
  have CPX := Lib.hid (fun (W : World) (r : Option Addr) (cc : Nat) (hbw : Below w.heap.size w W) (hs : Ss W r X) (h1 : nx ≤ cc) (h2 : cc ≤ 9223372036854775807) (h3 : r = none → cc = 0) => (hP ▸ put_any r X nx cc W hnx.symm hs h1 h2 h3 (by omega) (fun s hs => Nat.le_trans (HXS.out s hs) (by decide)) (HG.out.keep hbw) : Calls Tryd.prog 15 #[.slice r nx cc] W (Gives P W)))
  have CPY := Lib.hid (fun (W : World) (r : Option Addr) (cc : Nat) (hbw : Below w.heap.size w W) (hs : Ss W r Y) (h1 : ny ≤ cc) (h2 : cc ≤ 9223372036854775807) (h3 : r = none → cc = 0) => (hQ ▸ put_any r Y ny cc W hny.symm hs h1 h2 h3 (by omega) (fun s hs => Nat.le_trans (HYS.out s hs) (by decide)) (HG.out.keep hbw) : Calls Tryd.prog 15 #[.slice r ny cc] W (Gives Q W)))
  have HNX := Lib.hid hnx
  have HNY := Lib.hid hny
  have HNP := Lib.hid hnp
  have HNQ := Lib.hid hnq
  clear hX hY hP hQ hnx hny hnp hnq HXs HYs hn hb hzx hm hby hzy hg
  go_enter Tryd.func5, Tryd.ntmps5
  go_wp2_with fail
  with_reducible refine C0.out.mono ?_
  rintro e w1 ⟨rfl, hb1⟩
  go_wp2_with fail
  with_reducible refine (C1.out w1 hb1).mono ?_
  rintro e w2 ⟨v2, rfl, ha2, hb2'⟩
  have hb2 := hb1.trans (hb2'.mono hb1.size)
  obtain ⟨px, cx, rfl, hSx, hcx1, hcx2, hcx3⟩ := ansS_form ha2 nx HNX.out.symm
  have HSx := Lib.hid hSx
  have HB2 := Lib.hid hb2
  have HCx3 := Lib.hid hcx3
  clear hb1 ha2 hb2' hb2 hSx hcx3
  go_wp2_with fail
  with_reducible refine (C2.out w2 HB2.out).mono ?_
  rintro e w3 ⟨v3, rfl, ha3, hb3'⟩
  obtain ⟨py, cy, rfl, hSy, hcy1, hcy2, hcy3⟩ := ansS_form ha3 ny HNY.out.symm
  have HB3 := Lib.hid (HB2.out.trans (hb3'.mono HB2.out.size))
  have HSx3 := Lib.hid (HSx.out.keep hb3')
  have HSy := Lib.hid hSy
  have HCy3 := Lib.hid hcy3
  clear ha3 hb3' hSy hcy3 HSx C0 C1 C2
  go_wp2_with fail
  with_reducible refine (CPX.out w3 px cx HB3.out HSx3.out hcx1 hcx2 HCx3.out).mono ?_
  rintro e w4 ⟨v4, rfl, ha4, hb4'⟩
  obtain ⟨pp, cp, rfl, hBp, hcp1, hcp2, hcp3⟩ := ans_form ha4 np HNP.out.symm
  have HB4 := Lib.hid (HB3.out.trans (hb4'.mono HB3.out.size))
  have HSx4 := Lib.hid (HSx3.out.keep hb4')
  have HSy4 := Lib.hid (HSy.out.keep hb4')
  have HBp := Lib.hid hBp
  have HCp3 := Lib.hid hcp3
  clear ha4 hb4' hBp hcp3 HSx3 HSy
  go_wp2_with fail
  with_reducible refine (CPY.out w4 py cy HB4.out HSy4.out hcy1 hcy2 HCy3.out).mono ?_
  rintro e w5 ⟨v5, rfl, ha5, hb5'⟩
  obtain ⟨pq, cq, rfl, hBq, hcq1, hcq2, hcq3⟩ := ans_form ha5 nq HNQ.out.symm
  have HB5 := Lib.hid (HB4.out.trans (hb5'.mono HB4.out.size))
  have HSx5 := Lib.hid (HSx4.out.keep hb5')
  have HSy5 := Lib.hid (HSy4.out.keep hb5')
  have HBp5 := Lib.hid (HBp.out.keep hb5')
  have HBq := Lib.hid hBq
  have HCq3 := Lib.hid hcq3
  have CN := Lib.hid (new_rd w5 (HG.out.keep HB5.out))
  clear ha5 hb5' hBq hcq3 HSx4 HSy4 HBp CPX CPY
  go_wp2_with fail
  with_reducible refine CN.out.mono ?_
  rintro e w6 ⟨a, F, rfl, hR6, hF6, hb6'⟩
  have HF := Lib.hid (fun k hk => Nat.le_trans HB5.out.size (hF6 k hk))
  have HX6 := Lib.hid (ss_new HSx5.out hb6' hF6)
  have HY6 := Lib.hid (ss_new HSy5.out hb6' hF6)
  have HP6 := Lib.hid (bs_new HBp5.out hb6' hF6)
  have HQ6 := Lib.hid (bs_new HBq.out hb6' hF6)
  have HB6 := Lib.hid (HB5.out.trans (hb6'.mono HB5.out.size))
  have z1 : ((np : Int) == 0) = false := by rw [beq_eq_false_iff_ne]; omega
  have CF := Lib.hid (feed_rd w6 F a [] false pp P np cp hR6 HNP.out.symm HP6.out.1 hcp1 hcp2 HCp3.out (by simp; omega) (HG.out.keep HB6.out))
  rw [List.nil_append] at CF
  clear hR6 hF6 hb6' HSx5 HSy5 HBp5 HBq CN
  go_wp2_with fail
  with_reducible refine CF.out.mono ?_
  rintro e w7 ⟨F7, rfl, hR7, hT7⟩
  have HX7 := Lib.hid (HX6.out.turn hT7)
  have HY7 := Lib.hid (HY6.out.turn hT7)
  have HP7 := Lib.hid (HP6.out.turn hT7)
  have HQ7 := Lib.hid (HQ6.out.turn hT7)
  have HB7 := Lib.hid (HB6.out.trans (hT7.below HF.out HB6.out.size))
  have HF7 := Lib.hid (hT7.ge HF.out HB6.out.size)
  have CF2 := Lib.hid (feed_rd w7 F7 a P false pq Q nq cq hR7 HNQ.out.symm HQ7.out.1 hcq1 hcq2 HCq3.out (by have := HNP.out; omega) (HG.out.keep HB7.out))
  clear hR7 hT7 CF HX6 HY6 HP6 HQ6 HF HB6
  go_wp2_with fail
  with_reducible refine CF2.out.mono ?_
  rintro e w8 ⟨F8, rfl, hR8, hT8⟩
  have HX8 := Lib.hid (HX7.out.turn hT8)
  have HY8 := Lib.hid (HY7.out.turn hT8)
  have HP8 := Lib.hid (HP7.out.turn hT8)
  have HB8 := Lib.hid (HB7.out.trans (hT8.below HF7.out HB7.out.size))
  have HF8 := Lib.hid (hT8.ge HF7.out HB7.out.size)
  have CR : Hid (Calls Tryd.prog 19 #[.pointer (some a), .int .i64 3] w8 (fun e w' => ∃ q c F', e = .returned (.tuple #[.slice q 2 c, .int .i64 0]) ∧ OwnT F' w8.heap.size w' (.slice q 2 c) [X, Y] ∧ Rd w' F' (.pointer (some a)) [] false ∧ Turn F8 w8 w' F')) := Lib.hid (read_any w8 F8 a (P ++ Q) false [X, Y] [] false 3 hR8 HRT.out (by simp only [List.length_cons, List.length_nil]; decide) (by decide) (by rw [List.length_append]; have := HNP.out; have := HNQ.out; omega) w.heap.size HB8.out.size HF8.out (fun W hW => HG.out.keep (HB8.out.trans hW)))
  clear hR8 hT8 CF2 HX7 HY7 HP7 HQ7 HF7 HB7
  go_wp2_with fail
  refine (show Calls _ _ _ _ _ from CR.out).mono ?_
  rintro e w9 ⟨q9, c9, F9, rfl, hO9, hR9, hT9⟩
  have HX9 := Lib.hid (HX8.out.turn hT9)
  have HY9 := Lib.hid (HY8.out.turn hT9)
  have HP9 := Lib.hid (HP8.out.turn hT9)
  have HB9 := Lib.hid (HB8.out.trans (hT9.below HF8.out HB8.out.size))
  have HTs := Lib.hid (show Ts F9 w9 q9 [X, Y] by
    obtain ⟨q', c', e1, h1, -⟩ := hO9.ts
    injection e1 with e1 _ _
    rw [e1]
    exact h1)
  have HR9 := Lib.hid hR9
  clear hR9 hT9 hO9 CR HX8 HY8 HP8 HF8 HB8
  go_wp2_with fail
  have hal := below1 w9 (.cells #[.slice px nx cx, .slice py ny cy] 23)
  have CS : Hid (Calls Tryd.prog 21 #[.slice q9 2 c9, .slice (some ⟨w9.heap.size, 0, none⟩) 2 2] (w9.alloc (.cells #[.slice px nx cx, .slice py ny cy] 23)) (fun e w' => e = .returned (.bool true) ∧ Below (w9.alloc (.cells #[.slice px nx cx, .slice py ny cy] 23)).heap.size (w9.alloc (.cells #[.slice px nx cx, .slice py ny cy] 23)) w')) := Lib.hid (by
    have h := same_any F9 (fun _ => False) q9 (some ⟨w9.heap.size, 0, none⟩) [X, Y] [X, Y] 2 2 c9 2 _ rfl rfl (Ts.keep HTs.out hal) (ts_two w9 px py X Y nx ny cx cy 23 HX9.out.1 HY9.out.1 HNX.out.symm HNY.out.symm ⟨hcx1, hcx2, HCx3.out⟩ ⟨hcy1, hcy2, HCy3.out⟩) (by decide) (fun x hx => by
      have h1 := HNX.out
      have h2 := HNY.out
      rcases List.mem_cons.1 hx with rfl | hx
      · omega
      · rcases List.mem_cons.1 hx with rfl | hx
        · omega
        · simp at hx)
    rwa [decide_eq_true (rfl : [X, Y] = [X, Y])] at h)
  have HPA := Lib.hid (HP9.out.1.keep hal)
  have HRA := Lib.hid (rd_below HR9.out hal)
  have HBA := Lib.hid (HB9.out.trans (hal.mono HB9.out.size))
  clear hal HTs HX9 HY9 HP9 HR9 HB9
  refine (show Calls _ _ _ _ _ from CS.out).mono ?_
  rintro e w10 ⟨rfl, hb10⟩
  have HP10 := Lib.hid (HPA.out.keep hb10)
  have HR10 := Lib.hid (rd_below HRA.out hb10)
  have HB10 := Lib.hid (HBA.out.trans (hb10.mono HBA.out.size))
  have hKn : k % np < np := Nat.mod_lt _ HTX.1
  obtain ⟨Z, hZ⟩ : ∃ Z, Z = P.take (k % np) := ⟨_, rfl⟩
  have HZl := Lib.hid (show Z.length = k % np by rw [hZ, List.length_take, ← HNP.out]; omega)
  have HZb := Lib.hid (show Bs w10 pp Z by rw [hZ]; exact ReplyT.Bs.take HP10.out (k % np))
  have HZp := Lib.hid (show nextL Z = .part by rw [hZ]; exact HPt.out _ hKn)
  have CX := Lib.hid (next_any pp Z (k % np) cp w10 HZl.out HZb.out (by omega) hcp2 (by omega) HCp3.out (HG.out.keep HB10.out))
  rw [HZp.out] at CX
  have i1 : (0 : Int) ≤ (k : Int) % (np : Int) := by omega
  have i2 : (k : Int) % (np : Int) ≤ (cp : Int) := by have : ((k % np : Nat) : Int) ≤ (cp : Int) := by omega
                                                      rwa [Int.natCast_emod] at this
  have i3 : ¬ (k : Int) % (np : Int) < 0 := by omega
  have i4 : ¬ (cp : Int) < (k : Int) % (np : Int) := by omega
  clear hb10 hZ CS
  go_wp2_with fail
  with_reducible refine CX.out.mono ?_
  rintro e w11 h11
  obtain ⟨v11, rfl, ha11, hb11⟩ := nextP_part h11
  obtain ⟨q11, c11, rfl, -⟩ := ansS_form ha11 0 rfl
  have HB11 := Lib.hid (HB10.out.trans (hb11.mono HB10.out.size))
  have CL : Hid (Calls Tryd.prog 22 #[.pointer (some a)] w11 (fun e w' => e = .returned (.int .i64 0) ∧ Below w11.heap.size w11 w')) := Lib.hid (left_rd w11 F9 a [] false (rd_below HR10.out hb11) (HG.out.keep HB11.out))
  clear ha11 hb11 h11 CX
  go_wp2_with fail
  refine (show Calls _ _ _ _ _ from CL.out).mono ?_
  rintro e w12 ⟨rfl, hb12⟩
  have HB12 := Lib.hid (HB11.out.trans (hb12.mono HB11.out.size))
  clear hb12
  go_wp2_with fail
  go_ret
  exact ⟨rfl, HB12.out⟩

theorem walk (p : Option Addr) (x : List (List UInt8)) (n c : Nat) (q : Option Addr) (y : List (List UInt8)) (m d : Nat) (k : Int) (w : World) (hn : x.length = n) (hb : Ss w p x) (hzx : ∀ s ∈ x, s.length ≤ 140737488351232) (hn9 : n ≤ 9223372036854775807)
    (hm : y.length = m) (hby : Ss w q y) (hzy : ∀ s ∈ y, s.length ≤ 140737488351232) (hm9 : m ≤ 9223372036854775807) (h0 : 0 ≤ k) (h1 : k ≤ 65535) (hg : Gd w) :
    Calls Tryd.prog 5 #[.slice p n c, .slice q m d, .int .u16 k] w fun e w' => e = .returned (.bool true) ∧ Below w.heap.size w w' := by
  obtain ⟨j, rfl⟩ := Int.eq_ofNat_of_zero_le h0
  exact walk0 p x n c q y m d j w hn hb hn9 hzx hm hby hm9 hzy (by omega) hg

end Go.Proofs.YtadffjmpkeaikaaDoor.frameBack
